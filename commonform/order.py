"""The order of forms: which form is above which tree, and what bars it."""

from commonform.trees import parts_of


def same_head(one, other):
    """Whether two trees are blocks of one name and one count of parts."""
    if one[0] == "blank" or other[0] == "blank":
        return False
    return one[1] == other[1] and len(parts_of(one)) == len(parts_of(other))


def blank_clash(number, tree, place, stood):
    """The clash of a form's blank of this number with the tree at this place, or None."""
    if number not in stood:
        stood[number] = (place, tree)
        return None
    first = stood[number]
    if first[1] == tree:
        return None
    return ("twice", first[0], place)


def clash_from(form, tree, place, stood):
    """The first clash of a form and a tree that lie at this place, or None.

    The dict stood holds, for each blank of the form that was met, its first place and the tree there.
    """
    if form[0] == "blank":
        return blank_clash(form[1], tree, place, stood)
    if not same_head(form, tree):
        return ("unlike", place)
    parts = parts_of(tree)
    for number, inner in enumerate(parts_of(form)):
        clash = clash_from(inner, parts[number], place + (number,), stood)
        if clash is not None:
            return clash
    return None


def first_clash(form, tree):
    """The first clash that bars the form from being above the tree, or None where it is above."""
    return clash_from(form, tree, (), {})


def fitting(form, tree):
    """The filling of the form that is the tree, with just the form's blanks, or None."""
    stood = {}
    if clash_from(form, tree, (), stood) is not None:
        return None
    filling = {}
    for number in stood:
        filling[number] = stood[number][1]
    return filling
