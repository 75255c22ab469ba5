"""Trees for the tests, made without the program."""


def block(name, *parts):
    return ("block", name, tuple(parts))


def blank(number):
    return ("blank", number)


def chain(depth):
    """A tree of just this depth, one knot at each depth."""
    tree = block("a")
    for _ in range(depth - 1):
        tree = block("a", tree)
    return tree


def bushy(knots):
    """A tree of just this many knots, with at most 9 parts at each block."""
    rest = knots - 1
    count = min(rest, 9)
    sizes = [rest // count + (k < rest % count) for k in range(count)]
    return block("a", *[bushy(size) for size in sizes])
