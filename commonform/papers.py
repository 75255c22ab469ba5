"""Likenesses, and the papers that show of one that no filling keeps it.

A likeness is a pair of trees; a filling keeps it where it gives one tree for both.
"""

from commonform.errors import BadPaper
from commonform.fillings import exchanged
from commonform.order import same_head
from commonform.trees import blanks_of, parts_of


def apart(one, other):
    """The other form, each number of a blank grown by the greatest one of the first form."""
    growth = max(blanks_of(one), default=0)
    grown = {}
    for number in blanks_of(other):
        grown[number] = ("blank", number + growth)
    return exchanged(other, grown)


def unlike_blocks(one, other):
    """Whether two trees are blocks of unlike names or counts of parts."""
    if one[0] == "blank" or other[0] == "blank":
        return False
    return not same_head(one, other)


def likeness_at(likenesses, number):
    """The likeness that has this number."""
    # Python would count a number below 0 from the end; here it names no likeness.
    if not 0 <= number < len(likenesses):
        raise BadPaper("there is no likeness of this number ahead")
    return likenesses[number]


def parts_likeness(likeness, number):
    """The likeness of the two parts of this number."""
    if not same_head(likeness[0], likeness[1]):
        raise BadPaper("the sides are not blocks of one name and one count")
    left = parts_of(likeness[0])
    right = parts_of(likeness[1])
    if not 0 <= number < len(left):
        raise BadPaper("the sides do not have a part of this number")
    return (left[number], right[number])


def linked_likeness(first, second):
    """The likeness of the first one's left side and the second one's right side."""
    if first[1] != second[0]:
        raise BadPaper("the trees in the middle are not one tree")
    return (first[0], second[1])


def likeness_by(step, likenesses):
    """The likeness that a step gives, from those ahead of it."""
    word = step[0]
    if len(step) != (2 if word == "turned" else 3):
        raise BadPaper("a step has three things, but two with the word turned")
    first = likeness_at(likenesses, step[1])
    if word == "turned":
        return (first[1], first[0])
    if word == "part":
        return parts_likeness(first, step[2])
    if word == "linked":
        return linked_likeness(first, likeness_at(likenesses, step[2]))
    raise BadPaper("there is no step of this word")


def refuse_loose_row(row):
    """Refuse a row of likenesses that does not show of a blank that it would stand within itself."""
    if len(row) == 0:
        raise BadPaper("the row is empty")
    for likeness in row:
        if likeness[0][0] != "blank" or likeness[1][0] != "block":
            raise BadPaper("a likeness in the row is not one of a blank and a block")
    # Behind the last one comes the first one again.
    for likeness, following in zip(row, row[1:] + row[:1]):
        if following[0][1] not in blanks_of(likeness[1]):
            raise BadPaper("a blank does not stand in the block ahead of it in the row")


def refuse_loose_end(end, likenesses):
    """Refuse an end that does not show that no filling keeps all of the likenesses."""
    if end[0] == "unlike":
        likeness = likeness_at(likenesses, end[1])
        if not unlike_blocks(likeness[0], likeness[1]):
            raise BadPaper("the sides are not blocks of unlike names or counts")
    elif end[0] == "within":
        refuse_loose_row([likeness_at(likenesses, number) for number in end[1]])
    else:
        raise BadPaper("there is no end of this word")


def walked(one, other, paper):
    """All likenesses of a paper that begins with the two trees, number 0 first."""
    likenesses = [(one, other)]
    for step in paper[0]:
        likenesses.append(likeness_by(step, likenesses))
    refuse_loose_end(paper[1], likenesses)
    return likenesses
