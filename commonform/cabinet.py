"""A cabinet that keeps forms by names, and answers questions without looking at each of them."""

from commonform.boughs import form_over, names_under, told_bough, with_leaf, without_name
from commonform.errors import BadName, NoForm, TooLong, Twice
from commonform.order import first_clash, fitting
from commonform.trees import MOST_DEPTH, MOST_KNOTS, depth_of, is_name, knots_of, put_at
from commonform.widest import barring_paper

MOST_FORMS = 40


def barred_row(bough, reason):
    """The row of a bough that is barred for a reason; None where there is none."""
    if reason is None:
        return None
    return ("barred", names_under(bough), reason)


def row_below(bough, form):
    """The row of a bough for the question which forms are below this one; None where its boughs must be asked."""
    fits = fitting(form, form_over(bough)) is not None
    if bough[0] == "leaf":
        return ("one", bough[1], fits)
    if fits:
        return ("all", names_under(bough))
    return barred_row(bough, barring_paper(form, form_over(bough)))


def row_above(bough, form):
    """The row of a bough for the question which forms are above this one; None where its boughs must be asked."""
    clash = first_clash(form_over(bough), form)
    if bough[0] == "leaf":
        return ("one", bough[1], clash is None)
    return barred_row(bough, clash)


def row_meeting(bough, form):
    """The row of a bough for the question which forms meet this one; None where its boughs must be asked."""
    paper = barring_paper(form, form_over(bough))
    if bough[0] == "leaf":
        return ("one", bough[1], paper is None)
    return barred_row(bough, paper)


def gather_rows(bough, form, row_of, rows):
    """Append to the rows those of a bough, for the question that row_of answers."""
    row = row_of(bough, form)
    if row is not None:
        rows.append(row)
    else:
        for inner in bough[2]:
            gather_rows(inner, form, row_of, rows)


def answers_in(rows):
    """The names that are answers by these rows, sorted."""
    names = []
    for row in rows:
        if row[0] == "all":
            names.extend(row[1])
        elif row[0] == "one" and row[2]:
            names.append(row[1])
    return sorted(names)


class Cabinet:
    """Forms kept by names; what all of them are kept in is the bough top, None where nothing is kept."""

    def __init__(self):
        self.kept = {}
        self.top = None

    def put(self, name, form):
        """Keep a form by a name."""
        if not is_name(name):
            raise BadName("this is no name")
        if name in self.kept:
            raise Twice("a form of this name is kept")
        if len(self.kept) >= MOST_FORMS:
            raise TooLong("no more forms can be kept")
        leaf = ("leaf", name, form)
        self.top = leaf if self.top is None else with_leaf(self.top, leaf)
        self.kept[name] = form

    def take(self, name):
        """Take a name and its form out."""
        self.form_of(name)
        self.kept.pop(name)
        self.top = without_name(self.top, name)

    def form_of(self, name):
        """The form kept by a name, as it was put."""
        if name not in self.kept:
            raise NoForm("no form of this name is kept")
        return self.kept[name]

    def names(self):
        """The kept names, sorted."""
        return sorted(self.kept)

    def boughs(self):
        """The boughs, as ("leaf", name) or ("knot", form, boughs); None where nothing is kept."""
        if self.top is None:
            return None
        return told_bough(self.top)

    def answered(self, form, row_of):
        """The answers to a question asked with a form, and the rows by which all names were gone through."""
        rows = []
        if self.top is not None:
            gather_rows(self.top, form, row_of, rows)
        return (answers_in(rows), rows)

    def below(self, form):
        """Which kept forms are below the form."""
        return self.answered(form, row_below)

    def above(self, form):
        """Which kept forms are above the form."""
        return self.answered(form, row_above)

    def meeting(self, form):
        """Which kept forms have a common form below with the form."""
        return self.answered(form, row_meeting)

    def change(self, name, place, part):
        """Put a part at a place of a kept form."""
        changed = put_at(self.form_of(name), place, part)
        if knots_of(changed) > MOST_KNOTS or depth_of(changed) > MOST_DEPTH:
            raise TooLong("the changed form would be too great")
        self.take(name)
        self.put(name, changed)
