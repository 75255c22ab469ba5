"""Points 2 and 15 to 17: the nearest common form."""

import itertools
import unittest

from commonform.fillings import filled, plain
from commonform.nearest import by_nearest, nearest, nearest_of
from commonform.order import fitting
from commonform.trees import blanks_of
from making import blank, block, bushy, chain, hung, trees_up_to

SMALL = trees_up_to(3, [block("a"), block("b"), blank(1), blank(2)], ["a", "b"])
ROWS = [block("a", *row) for row in itertools.product([block("a"), block("b"), blank(1), block("a", blank(1))], repeat=3)]
FEW = SMALL[::3] + ROWS[::4]
A = block("a")
B = block("b")
C = block("c")


class Shown(unittest.TestCase):
    """What every told nearest common form must keep."""

    def shown(self, trees, form, fillings):
        self.assertEqual(len(fillings), len(trees))
        self.assertEqual(form, plain(form))
        for tree, filling in zip(trees, fillings):
            self.assertEqual(sorted(filling), blanks_of(form))
            self.assertEqual(filled(form, filling), tree)


class OfTwo(Shown):
    def check(self, one, other, form, left, right):
        with self.subTest(one=one, other=other):
            self.assertEqual(nearest(one, other), (form, left, right))
            self.assertEqual(nearest(other, one), (form, right, left))

    def test_two_blocks_of_one_name_and_count(self):
        self.check(A, A, A, {}, {})
        self.check(block("a", A), block("a", B), block("a", blank(1)), {1: A}, {1: B})
        one = block("a", block("b", A, C), C)
        other = block("a", block("b", B, C), C)
        self.check(one, other, block("a", block("b", blank(1), C), C), {1: A}, {1: B})

    def test_every_other_pair_is_a_blank(self):
        for one, other in [
            (A, B),
            (block("a", A), block("b", A)),
            (A, block("a", A)),
            (block("a", A), block("a", A, A)),
            (blank(1), blank(2)),
            (blank(4), blank(4)),
            (blank(1), A),
            (blank(1), block("a", blank(1))),
        ]:
            self.check(one, other, blank(1), {1: one}, {1: other})

    def test_the_same_blank_for_the_same_pair(self):
        one = block("a", A, block("b", A), A)
        other = block("a", B, block("b", B), B)
        self.check(one, other, block("a", blank(1), block("b", blank(1)), blank(1)), {1: A}, {1: B})
        one = block("a", block("c", blank(1)), A, block("c", blank(1)))
        other = block("a", block("d", A), A, block("d", A))
        self.check(one, other, block("a", blank(1), A, blank(1)), {1: block("c", blank(1))}, {1: block("d", A)})

    def test_another_blank_for_another_pair(self):
        two = block("a", blank(1), blank(2))
        self.check(block("a", A, A), block("a", B, C), two, {1: A, 2: A}, {1: B, 2: C})
        self.check(block("a", A, B), block("a", B, A), two, {1: A, 2: B}, {1: B, 2: A})
        self.check(block("a", blank(1), blank(2)), block("a", B, B), two, {1: blank(1), 2: blank(2)}, {1: B, 2: B})

    def test_numbered_by_first_standing(self):
        one = block("a", block("b", block("c", A), B), C, A)
        other = block("a", block("b", block("c", B), A), blank(5), B)
        form = block("a", block("b", block("c", blank(1)), blank(2)), blank(3), blank(1))
        self.check(one, other, form, {1: A, 2: B, 3: C}, {1: B, 2: A, 3: blank(5)})

    def test_what_lies_under_a_blank_takes_no_number(self):
        one = block("a", block("b", A, C), C)
        other = block("a", block("c", B, A), B)
        self.check(one, other, block("a", blank(1), blank(2)), {1: block("b", A, C), 2: C}, {1: block("c", B, A), 2: B})

    def test_a_tree_with_itself(self):
        for tree in SMALL + [bushy(400), chain(60), block("a", blank(9), blank(3), blank(9))]:
            told = nearest(tree, tree)
            back = {k: blank(number) for k, number in enumerate(blanks_of(tree), start=1)}
            self.assertEqual(told, (plain(tree), back, back))
            told[1].clear()
            self.assertEqual(told[2], back)

    def test_a_form_with_a_tree_below_it(self):
        form = block("a", blank(4), block("b", blank(2)), blank(4))
        tree = block("a", C, block("b", A), C)
        told = block("a", blank(1), block("b", blank(2)), blank(1))
        self.check(form, tree, told, {1: blank(4), 2: blank(2)}, {1: C, 2: A})

    def test_all_small_pairs(self):
        for one, other in itertools.product(SMALL, repeat=2):
            form, left, right = nearest(one, other)
            self.shown([one, other], form, [left, right])
            self.assertEqual(nearest(other, one), (form, right, left))

    def test_it_is_below_every_form_above_both(self):
        forms = [form for form in SMALL if form == plain(form)]
        above = {tree: [form for form in forms if fitting(form, tree) is not None] for tree in SMALL}
        for one, other in itertools.product(SMALL, repeat=2):
            told = nearest(one, other)[0]
            common = [form for form in above[one] if form in above[other]]
            self.assertIn(told, common)
            for form in common:
                self.assertIsNotNone(fitting(form, told))

    def test_it_is_below_every_form_above_both_rows(self):
        parts = [A, B, blank(1), blank(2), blank(3), block("a", blank(1)), block("a", blank(2))]
        forms = [blank(1)] + [block("a", *row) for row in itertools.product(parts, repeat=3)]
        above = {tree: {form for form in forms if fitting(form, tree) is not None} for tree in ROWS}
        for one, other in itertools.product(ROWS, repeat=2):
            form, left, right = nearest(one, other)
            self.shown([one, other], form, [left, right])
            for common in above[one] & above[other]:
                self.assertIsNotNone(fitting(common, form))

    def test_edges(self):
        full = block("a", chain(59), bushy(340))
        other = block("a", hung(59, B), bushy(340))
        self.assertEqual(nearest(full, other), (block("a", hung(59, blank(1)), bushy(340)), {1: A}, {1: B}))
        self.assertEqual(nearest(bushy(400), chain(60)), (blank(1), {1: bushy(400)}, {1: chain(60)}))
        nine = nearest(block("a", *[blank(10 ** 9 - k) for k in range(9)]), block("a", *[A] * 9))
        self.assertEqual(nine[0], block("a", *[blank(k) for k in range(1, 10)]))
        self.assertEqual(nine[1], {k: blank(10 ** 9 + 1 - k) for k in range(1, 10)})
        self.assertEqual(nine[2], {k: A for k in range(1, 10)})

    def test_beyond_the_edges_nothing_is_refused(self):
        self.assertEqual(nearest(bushy(410), bushy(410)), (bushy(410), {}, {}))
        self.assertEqual(nearest(chain(70), hung(70, B)), (hung(70, blank(1)), {1: A}, {1: B}))

    def test_kinds(self):
        told = nearest(block("a", A), block("a", B))
        self.assertEqual([type(thing) for thing in told], [tuple, dict, dict])
        self.assertIs(type(told), tuple)
        self.assertIs(type(told[0][2]), tuple)

    def test_what_is_told_is_the_askers_own(self):
        one, other = block("a", A, B), block("a", B, A)
        told = nearest(one, other)
        later = nearest(one, other)
        later[1][1] = C
        later[2].clear()
        nearest(other, one)
        nearest_of([one, other, A])
        by_nearest(blank(1), one, other)
        self.assertEqual(told, (block("a", blank(1), blank(2)), {1: A, 2: B}, {1: B, 2: A}))
        self.assertEqual(nearest(one, other), told)
        told[1][1] = C
        self.assertEqual(told[2], {1: B, 2: A})


class OfMany(Shown):
    def test_of_one_its_plain_naming(self):
        tree = block("a", blank(9), block("b", blank(3), C), blank(9))
        self.assertEqual(nearest_of([tree]), (block("a", blank(1), block("b", blank(2), C), blank(1)), [{1: blank(9), 2: blank(3)}]))
        self.assertEqual(nearest_of([A]), (A, [{}]))
        self.assertEqual(nearest_of([blank(5)]), (blank(1), [{1: blank(5)}]))
        for tree in SMALL:
            form, fillings = nearest_of([tree])
            self.assertEqual(form, plain(tree))
            self.shown([tree], form, fillings)

    def test_of_two_as_nearest(self):
        for one, other in itertools.product(SMALL, repeat=2):
            form, left, right = nearest(one, other)
            self.assertEqual(nearest_of([one, other]), (form, [left, right]))

    def test_of_three(self):
        trees = [block("a", A, A, C), block("a", A, B, C), block("a", B, A, C)]
        form = block("a", blank(1), blank(2), C)
        self.assertEqual(nearest_of(trees), (form, [{1: A, 2: A}, {1: A, 2: B}, {1: B, 2: A}]))
        trees = [block("a", A, block("b", A)), block("a", B, block("b", B)), block("a", B, block("b", B))]
        form = block("a", blank(1), block("b", blank(1)))
        self.assertEqual(nearest_of(trees), (form, [{1: A}, {1: B}, {1: B}]))

    def test_the_last_tree_counts(self):
        alike_ones = [block("a", B, B)] * 4
        self.assertEqual(nearest_of(alike_ones + [block("a", B, C)]), (block("a", B, blank(1)), [{1: B}] * 4 + [{1: C}]))
        self.assertEqual(nearest_of(alike_ones + [A]), (blank(1), [{1: block("a", B, B)}] * 4 + [{1: A}]))
        self.assertEqual(nearest_of(alike_ones + [blank(8)]), (blank(1), [{1: block("a", B, B)}] * 4 + [{1: blank(8)}]))
        self.assertEqual(nearest_of([blank(8)] + alike_ones), (blank(1), [{1: blank(8)}] + [{1: block("a", B, B)}] * 4))

    def test_rows_that_differ_in_one_tree_alone(self):
        trees = [block("a", A, A), block("a", B, B), block("a", C, A)]
        self.assertEqual(nearest_of(trees), (block("a", blank(1), blank(2)), [{1: A, 2: A}, {1: B, 2: B}, {1: C, 2: A}]))

    def test_in_any_order(self):
        for trees in itertools.combinations(FEW, 3):
            form, fillings = nearest_of(list(trees))
            self.shown(trees, form, fillings)
            for order in itertools.permutations(range(3)):
                turned = nearest_of([trees[k] for k in order])
                self.assertEqual(turned, (form, [fillings[k] for k in order]))

    def test_in_any_grouping(self):
        for one, two, three in itertools.product(FEW, repeat=3):
            form = nearest_of([one, two, three])[0]
            self.assertEqual(nearest(nearest(one, two)[0], three)[0], form)
            self.assertEqual(nearest(one, nearest(two, three)[0])[0], form)

    def test_five_in_many_groupings(self):
        for k in range(len(FEW)):
            trees = [FEW[(k + 5 * step) % len(FEW)] for step in range(4)] + [FEW[k]]
            form, fillings = nearest_of(trees)
            self.shown(trees, form, fillings)
            one = nearest_of(trees[:2])[0]
            other = nearest_of(trees[2:])[0]
            self.assertEqual(nearest(one, other)[0], form)
            self.assertEqual(nearest_of([other, one])[0], form)
            self.assertEqual(nearest_of([trees[4], one, trees[2], nearest(trees[3], trees[0])[0]])[0], form)
            row = trees[0]
            for tree in trees[1:]:
                row = nearest(tree, row)[0]
            self.assertEqual(row, form)

    def test_the_same_tree_more_often(self):
        for tree in FEW:
            self.assertEqual(nearest_of([tree] * 5)[0], plain(tree))
            self.assertEqual(nearest_of([tree, B, tree, tree])[0], nearest(B, tree)[0])

    def test_it_is_below_every_form_above_all(self):
        forms = [form for form in FEW if form == plain(form)]
        for trees in itertools.combinations(FEW, 3):
            told = nearest_of(list(trees))[0]
            for form in forms:
                above_all = all(fitting(form, tree) is not None for tree in trees)
                self.assertIs(fitting(form, told) is not None, above_all)

    def test_edges(self):
        trees = [hung(60, block("n" + str(k))) for k in range(40)]
        self.assertEqual(nearest_of(trees), (hung(60, blank(1)), [{1: block("n" + str(k))} for k in range(40)]))
        self.assertEqual(nearest_of([bushy(400)] * 40), (bushy(400), [{}] * 40))

    def test_many_great_trees(self):
        def great(k):
            return block("a", *[block("b", *[block("n" + str(k), block("m" + str(j))) for j in range(9)])] * 9)

        trees = [great(k) for k in range(200)]
        form, fillings = nearest_of(trees)
        self.assertEqual(form, block("a", *[block("b", *[blank(j) for j in range(1, 10)])] * 9))
        self.shown(trees, form, fillings)

    def test_kinds(self):
        told = nearest_of([A, B])
        self.assertIs(type(told), tuple)
        self.assertEqual(len(told), 2)
        self.assertIs(type(told[1]), list)
        self.assertEqual([type(filling) for filling in told[1]], [dict, dict])

    def test_what_is_handed_in_is_as_it_was(self):
        trees = [block("a", A), block("a", B), blank(3)]
        before = list(trees)
        told = nearest_of(trees)
        self.assertEqual(trees, before)
        trees.clear()
        self.assertEqual(told, (blank(1), [{1: tree} for tree in before]))

    def test_what_is_told_is_the_askers_own(self):
        tree = block("a", A, blank(2))
        for trees in [[tree], [tree, tree], [tree, B, tree], [A, A, A]]:
            told = nearest_of(trees)
            kept = (told[0], [dict(filling) for filling in told[1]])
            later = nearest_of(trees)
            for filling in later[1]:
                filling[1] = C
                filling[77] = C
            later[1].append({})
            self.assertEqual(told, kept)
            self.assertEqual(nearest_of(trees), kept)
            told[1][0][99] = C
            self.assertEqual(told[1][1:], kept[1][1:])


class ByNearest(unittest.TestCase):
    def test_a_form_above_both(self):
        form = block("a", blank(7), blank(3))
        one = block("a", block("b", A), C)
        other = block("a", block("b", B), C)
        self.assertEqual(nearest(one, other)[0], block("a", block("b", blank(1)), C))
        self.assertEqual(by_nearest(form, one, other), {7: block("b", blank(1)), 3: C})
        self.assertEqual(by_nearest(blank(2), one, other), {2: block("a", block("b", blank(1)), C)})

    def test_a_blank_that_stands_twice(self):
        form = block("a", blank(7), blank(7))
        self.assertEqual(by_nearest(form, block("a", A, A), block("a", B, B)), {7: blank(1)})
        self.assertIsNone(by_nearest(form, block("a", A, A), block("a", A, B)))
        self.assertIsNone(by_nearest(form, block("a", A, B), block("a", B, A)))

    def test_a_letter(self):
        self.assertEqual(by_nearest(A, A, A), {})
        self.assertIsNone(by_nearest(A, A, B))
        self.assertIsNone(by_nearest(A, B, B))

    def test_not_above_one_of_them(self):
        form = block("a", blank(1))
        below = block("a", B)
        for other in [B, A, block("a", B, B), block("b", B), blank(1)]:
            with self.subTest(other):
                self.assertIsNone(by_nearest(form, below, other))
                self.assertIsNone(by_nearest(form, other, below))
                self.assertIsNone(by_nearest(form, other, other))

    def test_the_nearest_common_form_itself(self):
        for one, other in itertools.product(FEW, repeat=2):
            form = nearest(one, other)[0]
            self.assertEqual(by_nearest(form, one, other), {number: blank(number) for number in blanks_of(form)})

    def test_all_small_ones(self):
        for form, one, other in itertools.product(FEW, repeat=3):
            told = by_nearest(form, one, other)
            above = fitting(form, one) is not None and fitting(form, other) is not None
            self.assertIs(told is not None, above)
            if above:
                self.assertEqual(sorted(told), sorted(blanks_of(form)))
                self.assertEqual(filled(form, told), nearest(one, other)[0])

    def test_edges(self):
        self.assertEqual(by_nearest(blank(1), bushy(400), bushy(400)), {1: bushy(400)})
        self.assertEqual(by_nearest(hung(59, blank(4)), chain(60), hung(60, B)), {4: block("a", blank(1))})
        self.assertIsNone(by_nearest(hung(60, A), chain(60), hung(60, B)))

    def test_the_dict_is_the_askers_own(self):
        one, other = block("a", A), block("a", B)
        told = by_nearest(block("a", blank(2)), one, other)
        self.assertIs(type(told), dict)
        later = by_nearest(block("a", blank(2)), one, other)
        later.clear()
        self.assertEqual(told, {2: blank(1)})
        told[3] = C
        self.assertEqual(by_nearest(block("a", blank(2)), one, other), {2: blank(1)})


if __name__ == "__main__":
    unittest.main()
