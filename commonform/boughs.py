"""Boughs, in which a cabinet keeps forms: those that have more in common lie under one knot.

A bough is ("leaf", name, form), or ("knot", form, boughs), boughs a tuple of two or more, the form being the nearest
common form of all forms under it.
"""

from commonform.nearest import nearest, nearest_of
from commonform.order import fitting
from commonform.trees import blanks_of, knots_of


def form_over(bough):
    """The form that is above all forms under a bough, and below every other such."""
    if bough[0] == "leaf":
        return bough[2]
    return bough[1]


def knot_over(boughs):
    """The knot that has these boughs."""
    # The nearest common form of nearest common forms is that of all forms under them.
    return ("knot", nearest_of([form_over(bough) for bough in boughs])[0], tuple(boughs))


def names_under(bough):
    """The names kept under a bough, sorted."""
    if bough[0] == "leaf":
        return [bough[1]]
    names = []
    for inner in bough[2]:
        names.extend(names_under(inner))
    return sorted(names)


def weight_of(form):
    """How much a form tells: of two forms, one below the other and not alike, the one below has more of it."""
    return knots_of(form) - len(blanks_of(form))


def with_leaf(bough, leaf):
    """The bough with a leaf more."""
    form = form_over(leaf)
    # A form that is not below the knot's form is kept out of it, so that what the knot has in common is not lost.
    if bough[0] == "leaf" or fitting(bough[1], form) is None:
        return knot_over([bough, leaf])
    boughs = list(bough[2])
    weights = [weight_of(nearest(form_over(inner), form)[0]) for inner in boughs]
    greatest = max(weights)
    # A bough that has no more in common with the form than the whole knot has would only be made wider by it.
    if greatest > weight_of(bough[1]):
        which = weights.index(greatest)
        boughs[which] = with_leaf(boughs[which], leaf)
    else:
        boughs.append(leaf)
    return knot_over(boughs)


def without_name(bough, name):
    """The bough without the leaf of a name, or None where nothing is left."""
    if name not in names_under(bough):
        return bough
    if bough[0] == "leaf":
        return None
    boughs = []
    for inner in bough[2]:
        rest = without_name(inner, name)
        if rest is not None:
            boughs.append(rest)
    if len(boughs) == 1:
        return boughs[0]
    return knot_over(boughs)


def told_bough(bough):
    """The bough as it is told: leaves without their forms, and boughs as lists."""
    if bough[0] == "leaf":
        return ("leaf", bough[1])
    boughs = []
    for inner in bough[2]:
        boughs.append(told_bough(inner))
    return ("knot", bough[1], boughs)
