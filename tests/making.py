"""Trees for the tests, made without the program."""


def block(name, *parts):
    return ("block", name, tuple(parts))


def blank(number):
    return ("blank", number)


def chain(depth):
    """A tree of just this depth, one knot at each depth."""
    tree = block("a")
    for _ in range(depth - 1):
        tree = block("a", tree)
    return tree


def bushy(knots):
    """A tree of just this many knots, with at most 9 parts at each block."""
    rest = knots - 1
    count = min(rest, 9)
    sizes = [rest // count + (k < rest % count) for k in range(count)]
    return block("a", *[bushy(size) for size in sizes])


def hung(depth, tree):
    """The tree under a chain of blocks, so that it begins at this depth."""
    for _ in range(depth - 1):
        tree = block("a", tree)
    return tree


def rows_of_trees(knots, leaves, names):
    """All tuples of one tree or more that have just this many knots together."""
    found = [(tree,) for tree in trees_of(knots, leaves, names)]
    for first in range(1, knots):
        for tree in trees_of(first, leaves, names):
            found += [(tree,) + rest for rest in rows_of_trees(knots - first, leaves, names)]
    return found


def trees_of(knots, leaves, names):
    """All trees of just this many knots, with these leaves and these names above them."""
    if knots == 1:
        return list(leaves)
    return [("block", name, parts) for name in names for parts in rows_of_trees(knots - 1, leaves, names)]


def trees_up_to(knots, leaves, names):
    """All trees of at most this many knots, with these leaves and these names above them."""
    return [tree for count in range(1, knots + 1) for tree in trees_of(count, leaves, names)]
