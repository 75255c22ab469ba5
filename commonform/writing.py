"""Trees written as texts, and texts read as trees."""

from commonform.errors import BadText, TooLong
from commonform.trees import MOST_DEPTH, MOST_KNOTS, is_figure, is_letter, is_name, parts_of

MOST_BLANK = 1000000000
MOST_BLANK_FIGURES = 10
MOST_PARTS = 9


def written(tree):
    """The text of a tree."""
    if tree[0] == "blank":
        return "?" + str(tree[1])
    texts = []
    for part in parts_of(tree):
        texts.append(written(part))
    if len(texts) == 0:
        return tree[1]
    return tree[1] + "(" + ",".join(texts) + ")"


def blank_number(figures):
    """The number of a blank that is written with these figures."""
    if figures == "" or figures.startswith("0"):
        raise BadText("a blank's number begins with a figure from 1 to 9")
    # Python refuses to turn very long rows of figures into a number, so their count is asked first.
    if len(figures) > MOST_BLANK_FIGURES or int(figures) > MOST_BLANK:
        raise BadText("a blank's number is too great")
    return int(figures)


class Reader:
    """Reads a text sign by sign from the left, so that the first fault is the one that is told."""

    def __init__(self, text):
        self.text = text
        self.at = 0
        self.knots = 0

    def sign_here(self):
        """The sign that comes next; the empty text at the end."""
        return self.text[self.at:self.at + 1]

    def begin_knot(self, depth):
        """Count a block or blank that begins here, at this depth."""
        self.knots += 1
        if self.knots > MOST_KNOTS:
            raise TooLong("the tree has too many knots")
        if depth > MOST_DEPTH:
            raise TooLong("the tree is too deep")

    def read_tree(self, depth):
        """The tree that begins here, at this depth."""
        sign = self.sign_here()
        if sign != "?" and not is_letter(sign):
            raise BadText("a block or a blank must begin here")
        # Only now, since at a sign that could be refused as both, BadText goes first.
        self.begin_knot(depth)
        if sign == "?":
            return self.read_blank()
        return self.read_block(depth)

    def read_blank(self):
        """The blank whose question mark stands here."""
        self.at += 1
        start = self.at
        while is_figure(self.sign_here()):
            self.at += 1
        return ("blank", blank_number(self.text[start:self.at]))

    def read_block(self, depth):
        """The block whose name begins here."""
        name = self.read_name()
        if self.sign_here() != "(":
            return ("block", name, ())
        self.at += 1
        return ("block", name, self.read_parts(depth + 1))

    def read_name(self):
        """The name that begins here."""
        start = self.at
        while is_letter(self.sign_here()) or is_figure(self.sign_here()):
            self.at += 1
        name = self.text[start:self.at]
        if not is_name(name):
            raise BadText("a name is too long")
        return name

    def read_parts(self, depth):
        """The parts that begin here, behind their opening bracket, up to the closing one."""
        parts = [self.read_tree(depth)]
        # Behind the last part that is allowed a comma can't stand any more.
        while self.sign_here() == "," and len(parts) < MOST_PARTS:
            self.at += 1
            parts.append(self.read_tree(depth))
        if self.sign_here() != ")":
            raise BadText("a closing bracket must stand here")
        self.at += 1
        return tuple(parts)


def read(text):
    """The tree that is written as the text."""
    reader = Reader(text)
    tree = reader.read_tree(1)
    if reader.sign_here() != "":
        raise BadText("nothing can stand behind the end of the tree")
    return tree
