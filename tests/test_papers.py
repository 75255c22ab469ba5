"""Points 2 and 18 to 20: forms made apart, and papers walked."""

import itertools
import unittest

from commonform.errors import BadPaper
from commonform.fillings import alike
from commonform.papers import apart, walked
from commonform.trees import blanks_of
from making import blank, block, bushy, chain, hung, trees_up_to

SMALL = trees_up_to(3, [block("a"), block("b"), blank(1), blank(2)], ["a", "b"])
A = block("a")
B = block("b")
C = block("c")


class Apart(unittest.TestCase):
    def test_numbers_grow_by_the_greatest_of_the_first(self):
        first = block("a", blank(2), blank(7), blank(3))
        second = block("b", blank(1), block("c", blank(7), blank(1)), C)
        self.assertEqual(apart(first, second), block("b", blank(8), block("c", blank(14), blank(8)), C))
        self.assertEqual(apart(second, first), block("a", blank(9), blank(14), blank(10)))
        self.assertEqual(apart(blank(4), blank(4)), blank(8))

    def test_also_where_no_number_is_shared(self):
        self.assertEqual(apart(block("a", blank(5)), blank(90)), blank(95))

    def test_grown_numbers_stay_apart_from_one_another(self):
        second = block("a", blank(1), blank(2), blank(3), blank(4), blank(1))
        self.assertEqual(apart(blank(1), second), block("a", blank(2), blank(3), blank(4), blank(5), blank(2)))

    def test_a_first_form_without_blanks(self):
        second = block("b", blank(3), blank(10 ** 9), A)
        self.assertEqual(apart(block("a", B, C), second), second)
        self.assertEqual(apart(A, blank(1)), blank(1))

    def test_a_second_form_without_blanks(self):
        second = block("b", A, block("c", B))
        self.assertEqual(apart(block("a", blank(5)), second), second)
        self.assertEqual(apart(A, second), second)

    def test_the_greatest_numbers(self):
        self.assertEqual(apart(blank(10 ** 9), blank(10 ** 9)), blank(2 * 10 ** 9))
        self.assertEqual(apart(blank(10 ** 9), block("a", blank(1))), block("a", blank(10 ** 9 + 1)))
        self.assertEqual(apart(blank(1), blank(10 ** 9)), blank(10 ** 9 + 1))

    def test_great_forms(self):
        self.assertEqual(apart(block("a", bushy(198), blank(3)), hung(30, blank(2))), hung(30, blank(5)))
        self.assertEqual(apart(hung(30, blank(4)), block("a", bushy(198), blank(3))), block("a", bushy(198), blank(7)))
        self.assertEqual(apart(blank(1), block("a", bushy(210), blank(1))), block("a", bushy(210), blank(2)))
        self.assertEqual(apart(blank(1), hung(40, blank(1))), hung(40, blank(2)))

    def test_all_small_ones(self):
        for one, other in itertools.product(SMALL, repeat=2):
            told = apart(one, other)
            self.assertTrue(alike(told, other))
            growth = max(blanks_of(one), default=0)
            self.assertEqual(blanks_of(told), [number + growth for number in blanks_of(other)])


class Steps(unittest.TestCase):
    """Each kind of step, in a paper that ends well."""

    def walk(self, one, other, steps, end, likenesses):
        told = walked(one, other, (steps, end))
        self.assertEqual(told, [(one, other)] + likenesses)
        self.assertIs(type(told), list)
        for likeness in told:
            self.assertIs(type(likeness), tuple)

    def test_no_step(self):
        self.walk(A, B, [], ("unlike", 0), [])
        self.walk(blank(1), block("a", blank(1)), [], ("within", [0]), [])

    def test_part(self):
        one = block("a", C, block("b", A), blank(1))
        other = block("a", C, block("b", B), A)
        steps = [("part", 0, 1), ("part", 1, 0), ("part", 0, 0), ("part", 0, 2)]
        self.walk(one, other, steps, ("unlike", 2), [(one[2][1], other[2][1]), (A, B), (C, C), (blank(1), A)])

    def test_the_last_of_nine_parts(self):
        self.walk(block("a", *[C] * 8, A), block("a", *[C] * 8, B), [("part", 0, 8)], ("unlike", 1), [(A, B)])

    def test_turned(self):
        self.walk(A, B, [("turned", 0), ("turned", 1)], ("unlike", 1), [(B, A), (A, B)])
        one = block("a", blank(1))
        self.walk(one, blank(1), [("turned", 0)], ("within", [1]), [(blank(1), one)])

    def test_linked(self):
        one = block("a", blank(1), blank(1))
        other = block("a", B, C)
        steps = [("part", 0, 0), ("part", 0, 1), ("turned", 1), ("linked", 3, 2)]
        likenesses = [(blank(1), B), (blank(1), C), (B, blank(1)), (B, C)]
        self.walk(one, other, steps, ("unlike", 4), likenesses)

    def test_linked_with_itself(self):
        one = block("a", A, B)
        other = block("a", A, C)
        self.walk(one, other, [("part", 0, 0), ("linked", 1, 1), ("part", 0, 1)], ("unlike", 3), [(A, A), (A, A), (B, C)])

    def test_linked_to_the_one_turned(self):
        self.walk(A, B, [("turned", 0), ("linked", 0, 1), ("linked", 1, 0)], ("unlike", 0), [(B, A), (A, A), (B, B)])

    def test_steps_that_the_end_does_not_need(self):
        one = block("a", A, B)
        other = block("a", A, C)
        steps = [("part", 0, 0), ("turned", 0), ("part", 0, 1), ("part", 0, 1), ("turned", 3)]
        self.walk(one, other, steps, ("unlike", 3), [(A, A), (other, one), (B, C), (B, C), (C, B)])

    def test_many_steps(self):
        steps = [("turned", number) for number in range(1000)]
        self.walk(A, B, steps, ("unlike", 1000), [(B, A), (A, B)] * 500)

    def test_great_trees(self):
        one = hung(30, A)
        other = hung(30, B)
        told = walked(one, other, ([("part", number, 0) for number in range(29)], ("unlike", 29)))
        self.assertEqual(told, [(hung(30 - k, A), hung(30 - k, B)) for k in range(30)])
        great = block("b", bushy(209))
        self.assertEqual(walked(chain(40), great, ([], ("unlike", 0))), [(chain(40), great)])

    def test_numbers_of_blanks_that_were_made_apart(self):
        one = blank(10 ** 9)
        other = block("a", blank(2 * 10 ** 9), one)
        self.walk(one, other, [], ("within", [0]), [])


class WrongSteps(unittest.TestCase):
    """A step that does not follow is refused, though the paper would end well without it."""

    def refused(self, one, other, step):
        end = ("unlike", 0) if one[0] == other[0] == "block" else ("within", [0])
        # Two steps that always follow, so that there are likenesses 0 to 2 ahead of the one that is asked.
        ahead = [("turned", 0), ("turned", 1)]
        walked(one, other, (ahead, end))
        with self.subTest(one=one, other=other, step=step):
            with self.assertRaises(BadPaper):
                walked(one, other, (ahead + [step], end))

    def test_a_likeness_not_ahead(self):
        for number in [3, 4, 10 ** 30, -1, -2, -3, -4, -10 ** 30]:
            self.refused(A, B, ("turned", number))
            self.refused(A, B, ("part", number, 0))
            self.refused(A, B, ("linked", number, 1))
            self.refused(A, B, ("linked", 1, number))

    def test_a_likeness_that_comes_later(self):
        one = block("a", A, B)
        other = block("a", A, C)
        for steps in [
            [("part", 2, 0), ("part", 0, 1)],
            [("turned", 1), ("part", 0, 1)],
            [("turned", 2), ("part", 0, 1)],
            [("linked", 2, 0), ("part", 0, 1)],
        ]:
            with self.subTest(steps), self.assertRaises(BadPaper):
                walked(one, other, (steps, ("unlike", 2)))

    def paired(self, left, right):
        """A likeness 1 of these two, in trees that clash at another part."""
        return block("a", left, A), block("a", right, B), [("part", 0, 0)], [("part", 0, 1)], ("unlike", 2)

    def test_a_part_number_that_is_none(self):
        one, other, first, last, end = self.paired(block("b", A, B), block("b", B, A))
        for number in [0, 1]:
            walked(one, other, (first + last + [("part", 1, number)], end))
        for number in [2, 3, 9, 10 ** 30, -1, -2, -3, -10 ** 30]:
            with self.subTest(number), self.assertRaises(BadPaper):
                walked(one, other, (first + last + [("part", 1, number)], end))

    def test_parts_of_what_are_not_blocks_of_one_name_and_count(self):
        for left, right in [
            (block("b", A), block("c", A)),
            (block("b", A), block("b", A, A)),
            (block("b", A, A), block("b", A)),
            (blank(1), block("b", A)),
            (block("b", A), blank(1)),
            (blank(1), blank(1)),
            (blank(1), blank(2)),
            (A, A),
            (A, B),
        ]:
            one, other, first, last, end = self.paired(left, right)
            walked(one, other, (first + last, end))
            with self.subTest(left=left, right=right), self.assertRaises(BadPaper):
                walked(one, other, (first + last + [("part", 1, 0)], end))

    def test_a_link_whose_middle_trees_are_not_one(self):
        self.refused(A, B, ("linked", 0, 0))
        self.refused(A, B, ("linked", 0, 2))
        self.refused(A, B, ("linked", 1, 1))
        for left, right in [
            (blank(1), blank(2)),
            (block("b", blank(1)), block("b", blank(2))),
            (A, block("a", A)),
            (block("b", A, B), block("b", B, A)),
        ]:
            one, other, first, last, end = self.paired(left, right)
            with self.subTest(left=left, right=right), self.assertRaises(BadPaper):
                walked(one, other, (first + last + [("linked", 1, 1)], end))

    def test_a_word_that_is_none(self):
        for word in ["", "parts", "Part", " part", "link", "linked ", "turn", "TURNED", "unlike", "within", "block", "?"]:
            self.refused(A, B, (word, 0, 1))
            self.refused(A, B, (word, 1, 0))
            self.refused(A, B, (word, 77, -1))
        self.refused(blank(1), block("a", blank(1)), ("same", 0, 0))

    def test_a_step_has_three_things_but_two_with_the_word_turned(self):
        one = block("a", A, A)
        other = block("a", A, B)
        for step in [("turned", 0, 0), ("turned", 1, 1), ("part", 0), ("linked", 0), ("part", 0, 0, 0), ("linked", 1, 1, 1)]:
            with self.subTest(step), self.assertRaises(BadPaper):
                walked(one, other, ([("part", 0, 0), ("part", 0, 1), step], ("unlike", 2)))

    def test_refused_wherever_it_stands(self):
        good = ("turned", 0)
        for number in range(4):
            steps = [good] * number + [("turned", number + 1)] + [good] * (3 - number)
            with self.subTest(number), self.assertRaises(BadPaper):
                walked(A, B, (steps, ("unlike", 0)))


class Ends(unittest.TestCase):
    def follows(self, one, other, end):
        self.assertEqual(walked(one, other, ([], end)), [(one, other)])

    def refused(self, one, other, end, steps=()):
        with self.subTest(one=one, other=other, end=end), self.assertRaises(BadPaper):
            walked(one, other, (list(steps), end))

    def test_unlike(self):
        for one, other in [
            (A, B),
            (A, block("a", A)),
            (block("a", A), block("a", A, A)),
            (block("a", A), block("b", A)),
            (block("a", blank(1)), block("b", blank(1), A)),
        ]:
            self.follows(one, other, ("unlike", 0))
            self.follows(other, one, ("unlike", 0))

    def test_not_unlike(self):
        for one, other in [
            (A, A),
            (block("a", A), block("a", B)),
            (block("a", blank(1)), block("a", A)),
            (blank(1), A),
            (blank(1), blank(1)),
            (blank(1), blank(2)),
            (blank(1), block("a", blank(1))),
        ]:
            self.refused(one, other, ("unlike", 0))
            self.refused(other, one, ("unlike", 0))

    def test_unlike_of_a_likeness_that_is_not_there(self):
        for number in [1, 2, -1, 10 ** 30, -10 ** 30]:
            self.refused(A, B, ("unlike", number))
        for number in [3, -1, -2, -3]:
            self.refused(A, B, ("unlike", number), [("turned", 0), ("turned", 0)])

    def test_a_word_that_is_none(self):
        for word in ["", "Unlike", "within ", "part", "turned", "like", "end"]:
            self.refused(A, B, (word, 0))
            self.refused(blank(1), block("a", blank(1)), (word, [0]))

    def test_within_itself(self):
        self.follows(blank(1), block("a", blank(1)), ("within", [0]))
        self.follows(blank(1), block("a", A, block("b", blank(2), blank(1))), ("within", [0]))
        self.follows(blank(1), block("a", blank(1)), ("within", [0, 0]))
        self.follows(blank(1), block("a", blank(1)), ("within", [0] * 500))

    def test_not_within_itself(self):
        self.refused(blank(1), block("a", blank(2)), ("within", [0]))
        self.refused(blank(1), A, ("within", [0]))

    def test_an_empty_row(self):
        self.refused(blank(1), block("a", blank(1)), ("within", []))
        self.refused(A, B, ("within", []))

    def test_left_side_no_blank_or_right_side_no_block(self):
        self.refused(block("a", blank(1)), blank(1), ("within", [0]))
        self.refused(blank(1), blank(1), ("within", [0]))
        self.refused(block("a", blank(1)), block("a", blank(1)), ("within", [0]))
        self.refused(A, B, ("within", [0]))

    def test_a_row_of_likenesses_that_are_not_there(self):
        for number in [1, 2, -1, 10 ** 30, -10 ** 30]:
            self.refused(blank(1), block("a", blank(1)), ("within", [number]))
            self.refused(blank(1), block("a", blank(1)), ("within", [0, number]))
            self.refused(blank(1), block("a", blank(1)), ("within", [number, 0]))

    def ring(self):
        """Trees whose parts are likenesses 1 to 3: 1 holds blank 2, 2 holds blank 3, 3 holds blank 1."""
        one = block("a", blank(1), blank(2), blank(3), blank(4))
        other = block("a", block("b", A, blank(2)), block("c", block("b", blank(3))), block("d", blank(1)), blank(1))
        return one, other, [("part", 0, 0), ("part", 0, 1), ("part", 0, 2), ("part", 0, 3)]

    def test_a_row_of_several(self):
        one, other, steps = self.ring()
        for row in [[1, 2, 3], [2, 3, 1], [3, 1, 2], [1, 2, 3, 1, 2, 3]]:
            with self.subTest(row):
                told = walked(one, other, (steps, ("within", row)))
                self.assertEqual(told, [(one, other)] + list(zip(one[2], other[2])))

    def test_a_row_that_does_not_close(self):
        one, other, steps = self.ring()
        for row in [[1], [2], [3], [1, 2], [2, 1], [2, 3], [1, 3], [3, 2, 1], [1, 3, 2], [1, 2, 3, 1], [1, 1, 2, 3], [1, 2, 2, 3]]:
            self.refused(one, other, ("within", row), steps)

    def test_a_row_with_one_that_is_not_of_a_blank_and_a_block(self):
        one, other, steps = self.ring()
        for row in [[4], [1, 2, 3, 4], [4, 1, 2, 3], [1, 4, 2, 3], [0], [0, 1, 2, 3], [1, 2, 3, 0]]:
            self.refused(one, other, ("within", row), steps)

    def test_a_row_of_several_that_are_each_within_themselves(self):
        one = block("a", blank(1), blank(2))
        other = block("a", block("b", blank(1)), block("b", blank(2)))
        steps = [("part", 0, 0), ("part", 0, 1)]
        for row in [[1], [2], [1, 1], [2, 2]]:
            walked(one, other, (steps, ("within", row)))
        self.refused(one, other, ("within", [1, 2]), steps)
        self.refused(one, other, ("within", [2, 1]), steps)


def is_block(tree):
    return tree[0] == "block"


def heads(likeness):
    return [(tree[1], len(tree[2])) for tree in likeness]


def searched_step(step, likenesses):
    """The likeness that a step gives, or None, found by going through all steps that follow."""
    found = {}
    for e, one in enumerate(likenesses):
        found[("turned", e)] = one[::-1]
        if all(map(is_block, one)) and len(set(heads(one))) == 1:
            for k, pair in enumerate(zip(one[0][2], one[1][2])):
                found[("part", e, k)] = pair
        for f, other in enumerate(likenesses):
            if one[1] == other[0]:
                found[("linked", e, f)] = (one[0], other[1])
    return found.get(step)


def searched_end(end, likenesses):
    """Whether an end follows."""
    word, named = end
    if not set(named if word == "within" else [named]) <= set(range(len(likenesses))):
        return False
    if word == "unlike":
        return all(map(is_block, likenesses[named])) and len(set(heads(likenesses[named]))) == 2
    row = [likenesses[number] for number in named]
    kinds = {(left[0], right[0]) for left, right in row}
    return kinds == {("blank", "block")} and all(row[k][0][1] in blanks_of(row[k - 1][1]) for k in range(len(row)))


STARTS = [
    (blank(1), block("a", blank(1))),
    (block("a", blank(1)), blank(1)),
    (block("a", blank(1), blank(2)), block("a", block("b", blank(2)), block("b", blank(1)))),
    (block("a", blank(1), blank(1)), block("a", A, B)),
    (block("a", A), block("a", B)),
    (block("a", A), block("b", A)),
]
NAMED = [-1, 0, 1, 2, 3]
STEPS = [("turned", e) for e in NAMED] + [(word, e, k) for word in ("part", "linked") for e in NAMED for k in NAMED]
ENDS = [("unlike", e) for e in NAMED] + [("within", list(row)) for n in range(3) for row in itertools.product(NAMED, repeat=n)]


class AllSmallPapers(unittest.TestCase):
    def check(self, one, other, steps, likenesses):
        """Compare all ends; the likenesses are None where a step does not follow."""
        for end in ENDS:
            if likenesses is not None and searched_end(end, likenesses):
                self.assertEqual(walked(one, other, (steps, end)), likenesses)
            else:
                with self.assertRaises(BadPaper):
                    walked(one, other, (steps, end))

    def test_papers_of_up_to_two_steps(self):
        for start in STARTS:
            self.check(*start, [], [start])
            for step in STEPS:
                given = searched_step(step, [start])
                likenesses = None if given is None else [start, given]
                self.check(*start, [step], likenesses)
                if likenesses is None:
                    continue
                for later in STEPS:
                    given = searched_step(later, likenesses)
                    self.check(*start, [step, later], None if given is None else likenesses + [given])


class Own(unittest.TestCase):
    def test_what_is_handed_in_is_as_it_was(self):
        one = block("a", blank(1), blank(2))
        other = block("a", block("b", blank(2)), block("b", blank(1)))
        steps = [("part", 0, 0), ("part", 0, 1)]
        row = [1, 2]
        told = walked(one, other, (steps, ("within", row)))
        self.assertEqual((steps, row), ([("part", 0, 0), ("part", 0, 1)], [1, 2]))
        kept = list(told)
        steps.clear()
        row.append(7)
        self.assertEqual(told, kept)

    def test_what_is_told_is_the_askers_own(self):
        paper = ([("turned", 0)], ("unlike", 1))
        told = walked(A, B, paper)
        walked(A, B, paper).clear()
        walked(B, A, paper)
        self.assertEqual(told, [(A, B), (B, A)])
        told.append(None)
        self.assertEqual(walked(A, B, paper), [(A, B), (B, A)])


if __name__ == "__main__":
    unittest.main()
