"""Fillings: dicts from blanks' numbers to the trees that they are exchanged for."""

from commonform.errors import TooLong
from commonform.trees import blanks_of, depth_of, knots_of, parts_of

MOST_TOLD_KNOTS = 400
MOST_TOLD_DEPTH = 60


def exchanged(tree, filling):
    """The tree filled by the filling, however great it is."""
    if tree[0] == "blank":
        return filling.get(tree[1], tree)
    parts = []
    for part in parts_of(tree):
        parts.append(exchanged(part, filling))
    return ("block", tree[1], tuple(parts))


def refuse_too_great(tree):
    """Refuse a tree that is too great to be told."""
    if knots_of(tree) > MOST_TOLD_KNOTS:
        raise TooLong("the tree would have too many knots")
    if depth_of(tree) > MOST_TOLD_DEPTH:
        raise TooLong("the tree would be too deep")


def filled(tree, filling):
    """The tree with its blanks exchanged, all at once, for their trees in the filling."""
    whole = exchanged(tree, filling)
    refuse_too_great(whole)
    return whole


def one_behind(one, other):
    """The filling that is the one and then the other."""
    both = {}
    for number in one:
        both[number] = filled(one[number], other)
    for number in other:
        if number not in one:
            refuse_too_great(other[number])
            both[number] = other[number]
    return both


def plain(tree):
    """The tree with its blanks numbered 1, 2, 3 and so on by their first standing."""
    naming = {}
    for count, number in enumerate(blanks_of(tree), start=1):
        naming[number] = ("blank", count)
    return exchanged(tree, naming)


def alike(one, other):
    """Whether two trees are alike but for names of blanks."""
    return plain(one) == plain(other)
