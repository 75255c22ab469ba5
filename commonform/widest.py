"""The widest common form of two forms, or a paper that shows that there is none."""

from commonform.errors import TooLong
from commonform.fillings import filled, plain
from commonform.order import fitting
from commonform.papers import apart, unlike_blocks
from commonform.trees import blanks_of, parts_of


class Ties:
    """Trees that every filling of two forms must make one, and the steps of a paper that show it.

    The dict links holds, for a tree that is tied to another one, that one and the number of their likeness.
    Links lead on to a root that has none; it is a block where any of the trees tied to it is one.
    """

    def __init__(self):
        self.steps = []
        self.links = {}

    def noted(self, step):
        """The number of the likeness that this further step gives."""
        self.steps.append(step)
        return len(self.steps)

    def turned(self, number):
        """The number of a likeness with its sides exchanged; None stands for one of a tree with itself."""
        if number is None:
            return None
        return self.noted(("turned", number))

    def linked(self, first, second):
        """The number of the likeness that two likenesses give together; None stands for one of a tree with itself."""
        if first is None:
            return second
        if second is None:
            return first
        return self.noted(("linked", first, second))

    def root_of(self, tree):
        """The root that a tree is tied to, and the number of their likeness, None where it is the tree itself."""
        path = []
        root = tree
        while root in self.links:
            path.append(root)
            root = self.links[root][0]
        number = None
        # Each tree on the way is tied straight to the root, so that the ways and the paper stay short.
        for passed in reversed(path):
            number = self.linked(self.links[passed][1], number)
            self.links[passed] = (root, number)
        return (root, number)

    def tie_roots(self, left, right, number):
        """Tie two roots by the likeness of this number; told are the likenesses of their parts, with their numbers."""
        if left[0] == "block" and right[0] == "blank":
            self.links[right] = (left, self.turned(number))
            return []
        self.links[left] = (right, number)
        found = []
        # A blank has no parts, so nothing comes of this where one of the two is one.
        for which, pair in enumerate(zip(parts_of(left), parts_of(right))):
            if pair[0] != pair[1]:
                found.append((pair[0], pair[1], self.noted(("part", number, which))))
        return found

    def tie(self, one, other):
        """Tie two trees and what must be one with them; told is the number of a likeness that none keeps, or None."""
        pending = [(one, other, 0)]
        while len(pending) > 0:
            likeness = pending.pop(0)
            left = self.root_of(likeness[0])
            right = self.root_of(likeness[1])
            if left[0] != right[0]:
                number = self.linked(self.turned(left[1]), self.linked(likeness[2], right[1]))
                if unlike_blocks(left[0], right[0]):
                    return number
                pending.extend(self.tie_roots(left[0], right[0], number))
        return None


def blanks_within(root):
    """The blanks within the block that is a blank's root; none where the root is a blank."""
    if root[0] == "blank":
        return []
    return blanks_of(root)


def arranged(inner):
    """The blanks, each behind those within its root, and an empty list; or some of them, and a round of blanks.

    The dict inner holds for each blank those within its root. In a round each blank has the next one within its root,
    and the last one has the first.
    """
    order = {}
    for start in inner:
        path = [start]
        while len(path) > 0:
            here = path[-1]
            ahead = [number for number in inner[here] if number not in order]
            if len(ahead) == 0:
                order[here] = True
                path.pop()
            elif ahead[0] in path:
                return (list(order), path[path.index(ahead[0]):])
            else:
                path.append(ahead[0])
    return (list(order), [])


def settled(one, other):
    """What comes of two forms, without a common blank, that are to be made one.

    Told are a paper that shows that they can't be, and an empty list; or None, and all their blanks with their roots,
    each blank behind those within its root.
    """
    ties = Ties()
    clash = ties.tie(one, other)
    if clash is not None:
        return ((ties.steps, ("unlike", clash)), [])
    roots = {}
    inner = {}
    for number in blanks_of(one) + blanks_of(other):
        roots[number] = ties.root_of(("blank", number))
        inner[number] = blanks_within(roots[number][0])
    told = arranged(inner)
    if len(told[1]) > 0:
        return ((ties.steps, ("within", [roots[number][1] for number in told[1]])), [])
    return (None, [(number, roots[number][0]) for number in told[0]])


def barring_paper(one, other):
    """A paper, from one form and the other made apart, that shows that no form is below both; None where one is."""
    return settled(one, apart(one, other))[0]


def widest(one, other):
    """The widest common form of two forms with the fillings that give it, or a paper that shows that there is none."""
    told = settled(one, apart(one, other))
    if told[0] is not None:
        return ("none", told[0])
    trees = {}
    # Each of these trees stands in the common form, so where one is too great, that form is too.
    for number, root in told[1]:
        trees[number] = filled(root, trees)
    form = plain(filled(one, trees))
    return ("form", form, fitting(one, form), fitting(other, form))


def by_widest(one, other, tree):
    """The filling of the widest common form of two forms that gives the tree, or None."""
    try:
        told = widest(one, other)
    except TooLong:
        return None
    if told[0] == "none":
        return None
    # What is below both forms is below their widest common form, and nothing else is.
    return fitting(told[1], tree)
