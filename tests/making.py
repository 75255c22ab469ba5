"""Trees for the tests, and a slow search, made without the program."""


def block(name, *parts):
    return ("block", name, tuple(parts))


def blank(number):
    return ("blank", number)


def chain(depth):
    """A tree of just this depth, one knot at each depth."""
    tree = block("a")
    for _ in range(depth - 1):
        tree = block("a", tree)
    return tree


def bushy(knots):
    """A tree of just this many knots, with at most 9 parts at each block."""
    rest = knots - 1
    count = min(rest, 9)
    sizes = [rest // count + (k < rest % count) for k in range(count)]
    return block("a", *[bushy(size) for size in sizes])


def hung(depth, tree):
    """The tree under a chain of blocks, so that it begins at this depth."""
    for _ in range(depth - 1):
        tree = block("a", tree)
    return tree


def rows_of_trees(knots, leaves, names):
    """All tuples of one tree or more that have just this many knots together."""
    found = [(tree,) for tree in trees_of(knots, leaves, names)]
    for first in range(1, knots):
        for tree in trees_of(first, leaves, names):
            found += [(tree,) + rest for rest in rows_of_trees(knots - first, leaves, names)]
    return found


def trees_of(knots, leaves, names):
    """All trees of just this many knots, with these leaves and these names above them."""
    if knots == 1:
        return list(leaves)
    return [("block", name, parts) for name in names for parts in rows_of_trees(knots - 1, leaves, names)]


def trees_up_to(knots, leaves, names):
    """All trees of at most this many knots, with these leaves and these names above them."""
    return [tree for count in range(1, knots + 1) for tree in trees_of(count, leaves, names)]


def reached(tree, bound):
    """All blanks within a tree, and within the trees that these stand for."""
    found = []
    pending = [tree]
    while pending:
        here = pending.pop()
        if here[0] == "block":
            pending.extend(here[2])
        elif here not in found:
            found.append(here)
            pending.extend([bound[here[1]]] if here[1] in bound else [])
    return found


def unified(one, other, bound):
    """Whether trees without a common blank can be made one; what their blanks then stand for is put into bound."""
    while one[0] == "blank" and one[1] in bound:
        one = bound[one[1]]
    while other[0] == "blank" and other[1] in bound:
        other = bound[other[1]]
    if one == other:
        return True
    if one[0] == "blank":
        if one in reached(other, bound):
            return False
        bound[one[1]] = other
        return True
    if other[0] == "blank":
        return unified(other, one, bound)
    if one[1] != other[1] or len(one[2]) != len(other[2]):
        return False
    return all(unified(left, right, bound) for left, right in zip(one[2], other[2]))


def random_form(chance, depth, blanks, names):
    """A form of at most this depth; chance is a random.Random of a fixed seed."""
    if depth == 1 or chance.random() < 0.2:
        return blank(chance.randint(1, blanks)) if chance.random() < 0.7 else block(chance.choice(names))
    name = names[0] if chance.random() < 0.7 else chance.choice(names)
    return block(name, *[random_form(chance, depth - 1, blanks, names) for _ in range(chance.choice([2, 2, 2, 2, 3]))])
