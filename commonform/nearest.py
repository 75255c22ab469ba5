"""The nearest common form of trees, made by going down all of them at once."""

from commonform.order import fitting, same_head
from commonform.trees import parts_of


def common(row, numbers):
    """The nearest common form of a row of trees.

    The dict numbers holds, for each row that gave a blank, the number of that blank.
    """
    first = row[0]
    # A tree has one head with itself just where it is a block, so a row of one blank gives a blank too.
    if not all([same_head(first, tree) for tree in row]):
        # Rows are met in the order in which their blanks stand, so counting them numbers the blanks as asked.
        return ("blank", numbers.setdefault(row, len(numbers) + 1))
    parts = []
    for number in range(len(parts_of(first))):
        parts.append(common(tuple([parts_of(tree)[number] for tree in row]), numbers))
    return ("block", first[1], tuple(parts))


def filling_of(numbers, which):
    """The filling that gives the tree which stands at this index of the rows."""
    filling = {}
    for row, number in numbers.items():
        filling[number] = row[which]
    return filling


def nearest_of(trees):
    """The nearest common form of one tree or more, and for each tree the filling that gives it."""
    numbers = {}
    form = common(tuple(trees), numbers)
    return (form, [filling_of(numbers, which) for which in range(len(trees))])


def nearest(one, other):
    """The nearest common form of two trees, and the fillings that give the first and the second one."""
    numbers = {}
    form = common((one, other), numbers)
    return (form, filling_of(numbers, 0), filling_of(numbers, 1))


def by_nearest(form, one, other):
    """The filling of the form that gives the nearest common form of two trees, or None."""
    # A form is above both trees just where it is above their nearest common form, so both need not be asked.
    return fitting(form, nearest(one, other)[0])
