"""Trees of blocks and blanks, and their places.

A tree is ("block", name, parts), parts a tuple of trees, or ("blank", number).
"""

from commonform.errors import NoPlace

MOST_NAME_SIGNS = 12
MOST_KNOTS = 200
MOST_DEPTH = 30


def is_letter(sign):
    """Whether a sign, or the empty text, is a small letter."""
    return "a" <= sign <= "z"


def is_figure(sign):
    """Whether a sign, or the empty text, is a figure."""
    return "0" <= sign <= "9"


def is_name(text):
    """Whether a text is a name."""
    if not 1 <= len(text) <= MOST_NAME_SIGNS:
        return False
    if not is_letter(text[0]):
        return False
    return all([is_letter(sign) or is_figure(sign) for sign in text])


def parts_of(tree):
    """The parts of a tree; a blank has none."""
    if tree[0] == "blank":
        return ()
    return tree[2]


def knots_of(tree):
    """How many blocks and blanks a tree has, each as often as it stands."""
    knots = 1
    for part in parts_of(tree):
        knots += knots_of(part)
    return knots


def depth_of(tree):
    """The depth of a tree: 1 without parts."""
    deepest = 0
    for part in parts_of(tree):
        deepest = max(deepest, depth_of(part))
    return deepest + 1


def gather_places(tree, place, places):
    """Append to the places that of a tree, which is place, and those below it."""
    places.append(place)
    for number, part in enumerate(parts_of(tree)):
        gather_places(part, place + (number,), places)


def places_of(tree):
    """The places of a tree, a tree ahead of its parts, the parts in order."""
    places = []
    gather_places(tree, (), places)
    return places


def gather_blanks(tree, found):
    """Put the numbers of a tree's blanks into the dict found, in the order in which they stand."""
    if tree[0] == "blank":
        found[tree[1]] = True
    for part in parts_of(tree):
        gather_blanks(part, found)


def blanks_of(tree):
    """The numbers of a tree's blanks, each once, in the order of their first standing."""
    # A dict keeps a key where it came first, which is the order that is asked for.
    found = {}
    gather_blanks(tree, found)
    return list(found)


def numbered_part(tree, number):
    """The part of a tree that has this number."""
    parts = parts_of(tree)
    # Python would count a number below 0 from the end; here it names no part.
    if not 0 <= number < len(parts):
        raise NoPlace("the tree does not have this place")
    return parts[number]


def part_at(tree, place):
    """The part of a tree at a place."""
    here = tree
    for number in place:
        here = numbered_part(here, number)
    return here


def put_at(tree, place, part):
    """The tree with a part put at a place, and all else as it was."""
    if len(place) == 0:
        return part
    number = place[0]
    changed = put_at(numbered_part(tree, number), place[1:], part)
    parts = parts_of(tree)
    return ("block", tree[1], parts[:number] + (changed,) + parts[number + 1:])
