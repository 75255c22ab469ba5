"""Points 2 and 21 to 23: the widest common form, or a paper that there is none."""

import itertools
import random
import unittest

from commonform.errors import TooLong
from commonform.fillings import filled, plain
from commonform.nearest import nearest
from commonform.order import fitting
from commonform.papers import apart, walked
from commonform.trees import blanks_of, depth_of, knots_of
from commonform.widest import by_widest, widest
from making import blank, block, bushy, chain, hung, random_form, trees_up_to, unified

SMALL = trees_up_to(3, [block("a"), block("b"), blank(1), blank(2)], ["a", "b"])
PARTS = [block("a"), blank(1), blank(2), block("b", blank(1)), block("b", blank(2))]
ROWS = [block("c", *row) for row in itertools.product(PARTS, repeat=3)]
FEW = [blank(3), block("a"), block("a", blank(1), blank(2)), block("a", blank(2), block("b", blank(1)))] + ROWS[1::6]
A = block("a")
B = block("b")
C = block("c")


def strung(times, tree):
    """The tree under this many blocks of one part."""
    return hung(times + 1, tree)


def gathered(parts):
    """The parts, more than 9 of them, in one tree."""
    rows = [block("row", *parts[k:k + 9]) for k in range(0, len(parts), 9)]
    return block("rows", *rows)


def spelled_out(tree, bound):
    if tree[0] == "block":
        return block(tree[1], *[spelled_out(part, bound) for part in tree[2]])
    return spelled_out(bound[tree[1]], bound) if tree[1] in bound else tree


def searched(one, other):
    """The widest common form, or None where there is none, made part by part however great it is."""
    bound = {}
    if not unified(one, apart(one, other), bound):
        return None
    return plain(spelled_out(one, bound))


class Told(unittest.TestCase):
    """What everything that is told must keep."""

    def form(self, one, other):
        told = widest(one, other)
        self.assertIs(type(told), tuple)
        self.assertEqual(told[0], "form")
        word, form, left, right = told
        self.assertEqual(form, plain(form))
        self.assertEqual([type(left), type(right)], [dict, dict])
        self.assertEqual(sorted(left), sorted(blanks_of(one)))
        self.assertEqual(sorted(right), sorted(blanks_of(other)))
        self.assertEqual(filled(one, left), form)
        self.assertEqual(filled(other, right), form)
        return form

    def paper(self, one, other):
        told = widest(one, other)
        self.assertIs(type(told), tuple)
        self.assertEqual((told[0], len(told)), ("none", 2))
        steps, end = told[1]
        self.assertEqual([type(told[1]), type(steps), type(end)], [tuple, list, tuple])
        self.assertTrue(all(type(step) is tuple for step in steps))
        likenesses = walked(one, apart(one, other), told[1])
        self.assertEqual(likenesses[0], (one, apart(one, other)))
        return end


class Forms(Told):
    def check(self, one, other, form):
        with self.subTest(one=one, other=other):
            self.assertEqual(self.form(one, other), form)
            self.assertEqual(self.form(other, one), plain(form))

    def test_letters(self):
        self.check(A, A, A)
        letter = block("a", B, block("c", A, B))
        self.check(letter, letter, letter)

    def test_a_blank_and_any_form(self):
        self.check(blank(1), A, A)
        self.check(blank(1), blank(1), blank(1))
        self.check(blank(8), blank(3), blank(1))
        self.check(blank(1), block("a", blank(1)), block("a", blank(1)))
        self.check(blank(5), block("a", blank(9), B, blank(7), blank(9)), block("a", blank(1), B, blank(2), blank(1)))

    def test_fillings_by_their_own_blanks(self):
        one = block("a", blank(7), B, blank(9))
        other = block("a", C, blank(9), blank(7))
        told = ("form", block("a", C, B, blank(1)), {7: C, 9: blank(1)}, {9: B, 7: blank(1)})
        self.assertEqual(widest(one, other), told)
        one = block("a", blank(4), blank(4), blank(2))
        other = block("a", blank(4), block("b", blank(2)), blank(4))
        told = widest(one, other)
        self.assertEqual(told[1], block("a", block("b", blank(1)), block("b", blank(1)), block("b", blank(1))))
        self.assertEqual(told[2], {4: block("b", blank(1)), 2: block("b", blank(1))})
        self.assertEqual(told[3], {4: block("b", blank(1)), 2: blank(1)})

    def test_blanks_of_the_same_number_are_not_the_same(self):
        self.check(block("a", blank(1), B), block("a", C, blank(1)), block("a", C, B))
        self.check(block("a", blank(1), blank(2)), block("a", blank(2), blank(1)), block("a", blank(1), blank(2)))
        self.check(block("a", blank(1)), blank(1), block("a", blank(1)))
        one = block("a", blank(1), block("b", blank(1)))
        other = block("a", block("b", blank(1)), blank(2))
        self.check(one, other, block("a", block("b", blank(1)), block("b", block("b", blank(1)))))

    def test_a_number_that_is_the_others_grown(self):
        one = block("a", blank(1), blank(2), blank(3))
        other = block("a", blank(2), blank(1), A)
        self.check(one, other, block("a", blank(1), blank(2), A))
        self.check(block("a", blank(1), blank(2)), block("a", blank(1), blank(1)), block("a", blank(1), blank(1)))

    def test_blanks_tied_to_blanks(self):
        one = block("a", blank(1), blank(1), blank(2), blank(3))
        other = block("a", blank(1), blank(2), blank(2), blank(3))
        self.check(one, other, block("a", blank(1), blank(1), blank(1), blank(2)))
        one = block("a", blank(1), blank(1), blank(2), blank(2))
        other = block("a", blank(1), blank(2), blank(2), B)
        self.check(one, other, block("a", B, B, B, B))

    def test_a_form_below_the_other(self):
        form = block("a", blank(5), blank(5), blank(6))
        tree = block("a", B, B, C)
        self.check(form, tree, tree)
        self.check(form, form, plain(form))

    def test_blocks_tied_by_a_blank_that_stands_twice(self):
        one = block("a", blank(1), blank(1))
        other = block("a", block("b", blank(1), C), block("b", A, blank(2)))
        self.check(one, other, block("a", block("b", A, C), block("b", A, C)))
        one = block("c", blank(1), blank(1), blank(1))
        other = block("c", block("b", blank(1), blank(2), A), block("b", blank(2), blank(3), blank(4)), blank(9))
        self.check(one, other, block("c", *[block("b", blank(1), blank(1), A)] * 3))

    def test_the_greatest_numbers(self):
        one = block("a", blank(10 ** 9), blank(10 ** 9 - 1))
        other = block("a", blank(10 ** 9), blank(10 ** 9))
        told = widest(one, other)
        same = block("a", blank(1), blank(1))
        self.assertEqual(told, ("form", same, {10 ** 9: blank(1), 10 ** 9 - 1: blank(1)}, {10 ** 9: blank(1)}))


class NoForm(Told):
    def check(self, one, other, word):
        with self.subTest(one=one, other=other):
            self.assertEqual(self.paper(one, other)[0], word)
            self.assertEqual(self.paper(other, one)[0], word)

    def test_unlike_names_or_counts(self):
        self.check(A, B, "unlike")
        self.check(A, block("a", blank(1)), "unlike")
        self.check(block("a", blank(1)), block("a", blank(1), blank(2)), "unlike")
        self.check(block("a", blank(1), block("b", A)), block("a", C, block("b", B)), "unlike")
        self.check(block("a", A, A, B), block("a", A, A, C), "unlike")

    def test_unlike_by_a_blank_that_stands_twice(self):
        self.check(block("a", blank(1), blank(1)), block("a", B, C), "unlike")
        self.check(block("a", blank(1), blank(1)), block("a", block("b", A), block("b", B)), "unlike")
        self.check(block("a", blank(1), blank(1), blank(1)), block("a", blank(2), B, C), "unlike")
        self.check(block("a", blank(1), blank(1), B), block("a", C, blank(2), blank(2)), "unlike")

    def test_unlike_by_a_long_chain_of_blanks(self):
        one = block("a", C, blank(1), blank(1), blank(2), blank(2), blank(3), blank(3), blank(4), B)
        other = block("a", blank(1), blank(1), blank(2), blank(2), blank(3), blank(3), blank(4), blank(4), blank(4))
        self.check(one, other, "unlike")

    def test_a_blank_within_itself(self):
        self.check(block("a", blank(1), blank(1)), block("a", blank(1), block("b", blank(1))), "within")
        deep = block("c", A, block("b", block("b", blank(5)), B))
        self.check(block("a", blank(1), blank(1)), block("a", blank(5), deep), "within")
        self.check(block("a", blank(1), blank(1), blank(1)), block("a", blank(2), blank(5), deep), "within")

    def test_a_round_of_several_blanks(self):
        one = block("a", blank(1), block("b", blank(1)))
        other = block("a", block("b", blank(2)), blank(2))
        self.check(one, other, "within")
        one = block("a", blank(1), blank(2), blank(3), blank(1), blank(2), blank(3))
        other = block("a", block("b", blank(2)), block("b", blank(3)), block("b", blank(1)), blank(1), blank(2), blank(3))
        self.check(one, other, "within")
        self.assertEqual(len(self.paper(one, other)[1]), 3)

    def test_a_long_round(self):
        one = gathered([blank(k) for k in range(1, 41)] * 2)
        inner = [block("b", blank(k + 1)) for k in range(1, 40)] + [block("b", blank(1))]
        other = gathered(inner + [blank(k) for k in range(1, 41)])
        self.check(one, other, "within")
        self.assertEqual(len(self.paper(one, other)[1]), 40)

    def test_a_long_chain_that_is_no_round(self):
        one = gathered([blank(k) for k in range(1, 16)] * 2)
        other = gathered([block("b", blank(k)) for k in range(2, 16)] + [A] + [blank(k) for k in range(1, 16)])
        hanging = [A]
        for _ in range(14):
            hanging.insert(0, block("b", hanging[0]))
        self.assertEqual(self.form(one, other), gathered(hanging * 2))
        self.assertEqual(self.form(other, one), gathered(hanging * 2))

    def test_beside_parts_that_have_a_common_form(self):
        one = block("a", *[blank(j) for j in range(1, 10)])
        other = block("a", *[block("b", blank(3 * j)) for j in range(1, 10)])
        self.assertEqual(self.form(one, other), plain(other))
        for k in range(8):
            self.check(block("c", one, *[A] * k, B), block("c", other, *[A] * k, C), "unlike")
            self.check(block("c", B, *[A] * k, one), block("c", C, *[A] * k, other), "unlike")


class Searched(Told):
    def compare(self, one, other):
        form = searched(one, other)
        if form is None:
            self.paper(one, other)
        else:
            self.assertEqual(self.form(one, other), form)

    def above_every_other(self, one, other, below):
        common = [form for form in below[one] if form in below[other]]
        told = widest(one, other)
        if told[0] == "none":
            self.assertEqual(common, [])
        for form in common:
            self.assertIsNotNone(fitting(told[1], form))

    def test_all_small_pairs(self):
        forms = trees_up_to(4, [A, B, blank(1), blank(2)], ["a", "b"])
        below = {one: {form for form in forms if fitting(one, form) is not None} for one in SMALL}
        for one, other in itertools.product(SMALL, repeat=2):
            self.compare(one, other)
            self.above_every_other(one, other, below)

    def test_all_pairs_of_rows(self):
        parts = PARTS + [B, block("b", A), block("b", block("b", blank(1)))]
        forms = [block("c", *row) for row in itertools.product(parts, repeat=3)]
        below = {one: {form for form in forms if fitting(one, form) is not None} for one in ROWS}
        for one, other in itertools.product(ROWS, ROWS[::2]):
            self.compare(one, other)
            self.above_every_other(one, other, below)

    def compare_many(self, made):
        """How often each kind of answer came, over many pairs of forms that are made by chance."""
        met = {"form": 0, "unlike": 0, "within": 0, "long": 0}
        chance = random.Random(21)
        for _ in range(1500):
            one, other = made(chance), made(chance)
            form = searched(one, other)
            if form is None:
                met[self.paper(one, other)[0]] += 1
            elif knots_of(form) > 400 or depth_of(form) > 60:
                met["long"] += 1
                with self.assertRaises(TooLong):
                    widest(one, other)
            else:
                met["form"] += 1
                self.assertEqual(self.form(one, other), form)
        return met

    def test_many_forms_of_unlike_blocks(self):
        met = self.compare_many(lambda chance: random_form(chance, chance.randint(2, 6), chance.randint(1, 9), "ab"))
        self.assertGreater(min(met["form"], met["unlike"]), 100, met)

    def test_many_forms_of_like_blocks(self):
        def woven(chance, depth):
            if depth == 1 or chance.random() < 0.6:
                return blank(chance.randint(1, 6))
            return block("b", woven(chance, depth - 1), woven(chance, depth - 1))

        met = self.compare_many(lambda chance: block("c", *[woven(chance, 3) for _ in range(7)]))
        self.assertGreater(min(met["form"], met["within"]), 100, met)


def tripled(tree, more):
    """Two forms whose widest common form holds the tree three times, and more parts."""
    return block("a", *[blank(1)] * 3, *more), block("a", tree, blank(1), blank(2), *[blank(3 + k) for k in range(len(more))])


def stretched(first, second, third):
    """Two forms whose widest common form is two deeper than these three together."""
    one = block("b", blank(1), strung(first, blank(1)), strung(third, blank(5)))
    other = block("b", strung(second, blank(2)), blank(3), blank(2))
    return one, other


def doubling(times, count, first):
    """Parts of two forms by which a blank of the first form stands for count to the power of times of the last one."""
    one = [block("p", blank(first + k), blank(first + k + 1)) for k in range(times)]
    other = [block("p", block("b", *[blank(first + k)] * count), blank(first + k)) for k in range(times)]
    return one, other


class Great(Told):
    def long(self, one, other):
        for pair in [(one, other), (other, one)]:
            with self.assertRaises(TooLong):
                widest(*pair)

    def test_just_400_knots_and_more(self):
        one, other = tripled(bushy(133), [])
        form = self.form(one, other)
        self.assertEqual(form, block("a", *[bushy(133)] * 3))
        self.assertEqual(knots_of(form), 400)
        self.assertEqual(self.form(other, one), form)
        self.long(*tripled(bushy(133), [A]))
        self.long(*tripled(bushy(134), []))
        self.long(*tripled(bushy(195), []))

    def test_a_depth_of_just_60_and_more(self):
        one, other = stretched(20, 20, 18)
        form = self.form(one, other)
        self.assertEqual(depth_of(form), 60)
        self.assertEqual(form, block("b", strung(38, blank(1)), strung(58, blank(1)), strung(18, blank(1))))
        self.assertEqual(depth_of(self.form(*stretched(19, 20, 18))), 59)
        self.long(*stretched(20, 20, 19))
        self.long(*stretched(20, 21, 18))
        self.long(*stretched(28, 28, 28))

    def test_none_however_great_it_would_be(self):
        for one, other in [tripled(bushy(195), []), stretched(28, 28, 28), tripled(bushy(133), [A])]:
            self.long(block("c", one, A), block("c", other, A))
            self.long(block("c", A, one), block("c", A, other))
            for left, right in [(A, B), (block("a", blank(9), blank(9)), block("a", A, B))]:
                self.assertEqual(self.paper(block("c", one, left), block("c", other, right))[0], "unlike")
                self.assertEqual(self.paper(block("c", right, other), block("c", left, one))[0], "unlike")
            left, right = block("a", blank(8), blank(8)), block("a", blank(9), block("b", blank(9)))
            self.assertEqual(self.paper(block("c", one, left), block("c", other, right))[0], "within")
            self.assertEqual(self.paper(block("c", right, other), block("c", left, one))[0], "within")

    def test_doubled_again_and_again(self):
        one, other = doubling(6, 2, 1)
        form = self.form(gathered(one), gathered(other))
        self.assertEqual(form, searched(gathered(one), gathered(other)))
        one, other = doubling(36, 2, 1)
        self.assertLessEqual(knots_of(gathered(other)), 200)
        self.long(gathered(one), gathered(other))
        self.assertEqual(self.paper(gathered(one + [A]), gathered(other + [B]))[0], "unlike")
        self.assertEqual(self.paper(gathered([A] + one), gathered([B] + other))[0], "unlike")

    def test_two_that_are_doubled_and_must_be_one(self):
        one, other = doubling(12, 4, 1)
        more, further = doubling(12, 4, 31)
        tied = one + more + [block("s", blank(1), blank(31))]
        tying = other + further + [block("s", blank(99), blank(99))]
        last = block("t", blank(13), blank(43))
        self.assertLessEqual(knots_of(gathered(tying + [block("t", A, B)])), 200)
        self.long(gathered(tied + [last]), gathered(tying + [block("t", A, A)]))
        self.assertEqual(self.paper(gathered(tied + [last]), gathered(tying + [block("t", A, B)]))[0], "unlike")
        self.assertEqual(self.paper(gathered([last] + tied), gathered([block("t", A, B)] + tying))[0], "unlike")
        round_of_both = gathered(tying + [block("t", blank(98), block("b", blank(98)))])
        self.assertEqual(self.paper(gathered(tied + [last]), round_of_both)[0], "within")

    def test_great_forms(self):
        great = block("a", bushy(198), blank(1))
        self.assertEqual(self.form(great, block("a", blank(1), A)), block("a", bushy(198), A))
        self.assertEqual(self.form(hung(30, blank(2)), chain(30)), chain(30))
        self.assertEqual(self.form(bushy(200), bushy(200)), bushy(200))
        many = gathered([blank(k) for k in range(1, 82)])
        self.assertEqual(self.form(many, many), many)
        turned = gathered([blank(k) for k in range(81, 0, -1)])
        self.assertEqual(self.form(many, turned), many)
        self.assertEqual(self.form(many, gathered([blank(1 + k // 2) for k in range(81)])), gathered([blank(1 + k // 2) for k in range(81)]))
        self.assertEqual(self.paper(bushy(200), put_last(bushy(200), B))[0], "unlike")

    def test_somewhat_beyond_what_is_handed_in(self):
        self.assertEqual(self.form(blank(1), bushy(210)), bushy(210))
        self.assertEqual(self.form(hung(40, blank(1)), chain(40)), chain(40))
        self.assertEqual(self.form(bushy(400), blank(1)), bushy(400))
        self.assertEqual(self.form(chain(60), blank(1)), chain(60))
        self.long(bushy(401), blank(1))
        self.long(chain(61), chain(61))
        self.assertEqual(self.paper(bushy(401), block("b", blank(1)))[0], "unlike")


def put_last(tree, part):
    """The tree with its last leaf exchanged."""
    if not tree[2]:
        return part
    return block(tree[1], *tree[2][:-1], put_last(tree[2][-1], part))


class ByWidest(unittest.TestCase):
    def test_a_tree_below_both(self):
        one = block("a", blank(7), B, blank(9))
        other = block("a", C, blank(9), blank(7))
        self.assertEqual(widest(one, other)[1], block("a", C, B, blank(1)))
        self.assertEqual(by_widest(one, other, block("a", C, B, A)), {1: A})
        self.assertEqual(by_widest(one, other, block("a", C, B, blank(6))), {1: blank(6)})
        self.assertEqual(by_widest(blank(5), blank(6), A), {1: A})
        self.assertEqual(by_widest(A, blank(6), A), {})
        self.assertEqual(by_widest(A, A, A), {})

    def test_a_tree_below_just_one_of_them(self):
        one = block("a", blank(1), blank(1))
        other = block("a", B, blank(2))
        for tree in [block("a", C, C), block("a", B, C), block("a", blank(1), blank(1)), block("a", B, blank(1))]:
            with self.subTest(tree):
                self.assertIsNone(by_widest(one, other, tree))
                self.assertIsNone(by_widest(other, one, tree))
        self.assertEqual(by_widest(one, other, block("a", B, B)), {})

    def test_a_tree_below_none_of_them(self):
        self.assertIsNone(by_widest(A, A, B))
        self.assertIsNone(by_widest(A, blank(1), blank(1)))
        self.assertIsNone(by_widest(block("a", blank(1)), block("a", B), block("a", C)))

    def test_where_there_is_no_common_form(self):
        for tree in [A, B, C, blank(1)]:
            self.assertIsNone(by_widest(A, B, tree))
        one = block("a", blank(1), blank(1))
        other = block("a", blank(1), block("b", blank(1)))
        for tree in [one, other, block("a", B, B), block("a", B, block("b", B))]:
            self.assertIsNone(by_widest(one, other, tree))

    def test_where_the_widest_one_would_be_too_great(self):
        for one, other in [tripled(bushy(134), []), stretched(20, 20, 19), tripled(bushy(195), [A])]:
            for tree in [one, other, A, blank(1), block("a", *[bushy(133)] * 3), chain(60)]:
                self.assertIsNone(by_widest(one, other, tree))
                self.assertIsNone(by_widest(other, one, tree))
        # Point 22 says always, so also of a tree that lies beyond the bound itself.
        self.assertIsNone(by_widest(*tripled(bushy(134), []), block("a", *[bushy(134)] * 3)))

    def test_all_small_ones(self):
        trees = FEW + ROWS[::9] + [block("c", A, A, A), block("c", block("b", A), A, block("b", A))]
        for one, other in itertools.product(FEW, repeat=2):
            told = widest(one, other)
            for tree in trees:
                filling = by_widest(one, other, tree)
                below = fitting(one, tree) is not None and fitting(other, tree) is not None
                self.assertIs(filling is not None, below)
                if below:
                    self.assertEqual(sorted(filling), blanks_of(told[1]))
                    self.assertEqual(filled(told[1], filling), tree)

    def test_edges(self):
        for tree in [bushy(400), bushy(410), chain(60), chain(70), block("a", *[bushy(133)] * 3)]:
            self.assertEqual(by_widest(blank(3), blank(4), tree), {1: tree})
        one, other = tripled(bushy(133), [])
        self.assertEqual(by_widest(one, other, block("a", *[bushy(133)] * 3)), {})
        one, other = stretched(20, 20, 18)
        self.assertEqual(by_widest(one, other, block("b", chain(39), chain(59), chain(19))), {1: A})

    def test_the_dict_is_the_askers_own(self):
        told = by_widest(blank(1), blank(2), A)
        self.assertIs(type(told), dict)
        by_widest(blank(1), blank(2), A).clear()
        self.assertEqual(told, {1: A})
        told[2] = B
        self.assertEqual(by_widest(blank(1), blank(2), A), {1: A})


def common(one, other):
    """The widest common form, or None; None also where one of the two is none."""
    if one is None or other is None:
        return None
    told = widest(one, other)
    return told[1] if told[0] == "form" else None


class Laws(unittest.TestCase):
    def test_the_two_laws_of_nearest_and_widest(self):
        for one, other in itertools.chain(itertools.product(SMALL, repeat=2), itertools.product(ROWS, ROWS[::3])):
            self.assertEqual(common(one, nearest(one, other)[0]), plain(one))
            form = common(one, other)
            if form is not None:
                self.assertEqual(nearest(one, form)[0], plain(one))

    def test_the_two_laws_at_the_edges(self):
        for one, other in [(bushy(200), chain(30)), (block("a", bushy(198), blank(4)), block("a", blank(1), chain(29))), tripled(bushy(133), [])]:
            self.assertEqual(common(one, nearest(one, other)[0]), plain(one))
            if common(one, other) is not None:
                self.assertEqual(nearest(one, common(one, other))[0], plain(one))

    def test_a_form_with_itself(self):
        for one in SMALL + ROWS:
            self.assertEqual(common(one, one), plain(one))
            self.assertEqual(common(one, plain(one)), plain(one))

    def test_any_order(self):
        for one, other in itertools.product(SMALL + ROWS[::4], repeat=2):
            self.assertEqual(common(one, other), common(other, one))

    def test_any_grouping(self):
        pairs = {pair: common(*pair) for pair in itertools.product(FEW, repeat=2)}
        all_none = 0
        for one, two, three in itertools.product(FEW, repeat=3):
            form = common(pairs[one, two], three)
            self.assertEqual(common(one, pairs[two, three]), form)
            two_have_none = None in (pairs[one, two], pairs[two, three], pairs[one, three])
            if two_have_none:
                self.assertIsNone(form)
            elif form is None:
                all_none += 1
        # There must be some of which any two have a common form, but not all three.
        self.assertGreater(all_none, 10)

    def test_any_two_but_not_all(self):
        one, two, three = block("a", blank(1), blank(1)), block("a", blank(1), B), block("a", C, blank(1))
        self.assertEqual(common(one, two), block("a", B, B))
        self.assertEqual(common(one, three), block("a", C, C))
        self.assertEqual(common(two, three), block("a", C, B))
        for order in itertools.permutations([one, two, three]):
            self.assertIsNone(common(common(order[0], order[1]), order[2]))


class Own(unittest.TestCase):
    def test_what_is_told_is_the_askers_own(self):
        one, other = block("a", blank(1), B, blank(1)), block("a", C, blank(1), C)
        told = widest(one, other)
        later = widest(one, other)
        later[2][1] = A
        later[3].clear()
        self.assertEqual(told, ("form", block("a", C, B, C), {1: C}, {1: B}))
        self.assertEqual(widest(one, other), told)
        told[2][5] = A
        self.assertEqual(told[3], {1: B})

    def test_equal_fillings_are_two(self):
        told = widest(blank(1), blank(1))
        told[2][7] = A
        self.assertEqual(told[3], {1: blank(1)})

    def test_a_paper_is_the_askers_own(self):
        for one, other in [
            (block("a", blank(1), blank(1)), block("a", B, C)),
            (block("a", blank(1), blank(1)), block("a", blank(1), block("b", blank(1)))),
        ]:
            steps, end = widest(one, other)[1]
            kept = (list(steps), (end[0], list(end[1]) if end[0] == "within" else end[1]))
            later = widest(one, other)[1]
            later[0].clear()
            if end[0] == "within":
                later[1][1].append(5)
            self.assertEqual((steps, end), kept)
            steps.append(None)
            self.assertEqual(widest(one, other)[1], kept)


if __name__ == "__main__":
    unittest.main()
