"""Points 2 and 9 to 11: fillings, one behind another, plain namings."""

import copy
import itertools
import re
import unittest

from commonform.errors import TooLong
from commonform.fillings import alike, filled, one_behind, plain
from commonform.trees import blanks_of, depth_of, knots_of
from commonform.writing import written
from making import blank, block, bushy, chain, hung, trees_up_to

LEAVES = [block("b"), blank(1), blank(2)]
SMALL = trees_up_to(3, LEAVES, ["a", "b"])
FEW = [block("b"), blank(1), blank(2), block("a", blank(2)), block("a", blank(1), block("b"))]


def fillings_of(trees):
    """All fillings with the numbers 1 and 2, or one of them, or none, that have these trees."""
    found = []
    for one, other in itertools.product([None] + trees, repeat=2):
        pairs = [(1, one), (2, other)]
        found.append({number: tree for number, tree in pairs if tree is not None})
    return found


def text_filled(tree, filling):
    """The writing of a tree filled, made by exchanging within its writing."""
    return re.sub(r"\?(\d+)", lambda met: written(filling.get(int(met[1]), blank(int(met[1])))), written(tree))


def many_blanks(count):
    """A tree of just this many knots whose leaves are all the blank 1."""
    rest = count - 1
    if rest == 0:
        return blank(1)
    parts = min(rest, 9)
    return block("a", *[many_blanks(rest // parts + (k < rest % parts)) for k in range(parts)])


class Filling(unittest.TestCase):
    def test_without_blanks(self):
        letter = block("a", block("b"), block("c", block("d")))
        for filling in [{}, {1: block("x")}, {1: blank(2), 10 ** 9: chain(5)}]:
            self.assertEqual(filled(letter, filling), letter)

    def test_a_blank_alone(self):
        tree = block("a", block("b"), blank(3))
        self.assertEqual(filled(blank(7), {7: tree}), tree)
        self.assertEqual(filled(blank(7), {7: blank(9)}), blank(9))
        self.assertEqual(filled(blank(7), {7: blank(7)}), blank(7))
        self.assertEqual(filled(blank(7), {}), blank(7))
        self.assertEqual(filled(blank(7), {8: tree}), blank(7))
        self.assertEqual(filled(blank(10 ** 9), {10 ** 9: tree}), tree)

    def test_a_blank_that_stands_more_than_once(self):
        tree = block("a", blank(1), block("b", blank(1), blank(2)), blank(1))
        new = block("c", block("d"))
        self.assertEqual(filled(tree, {1: new}), block("a", new, block("b", new, blank(2)), new))

    def test_blanks_that_the_filling_lacks_stay(self):
        tree = block("a", blank(1), blank(2), blank(3))
        self.assertEqual(filled(tree, {2: block("x")}), block("a", blank(1), block("x"), blank(3)))
        self.assertEqual(filled(tree, {}), tree)

    def test_numbers_that_the_tree_has_not(self):
        tree = block("a", blank(1), blank(2))
        self.assertEqual(filled(tree, {1: block("x"), 3: block("y")}), block("a", block("x"), blank(2)))
        self.assertEqual(filled(tree, {5: bushy(400), 6: chain(60)}), tree)

    def test_all_at_once(self):
        tree = block("a", blank(1), blank(2), blank(3))
        self.assertEqual(filled(tree, {1: blank(2), 2: blank(1)}), block("a", blank(2), blank(1), blank(3)))
        self.assertEqual(filled(tree, {1: blank(2), 2: blank(3), 3: block("x")}), block("a", blank(2), blank(3), block("x")))
        self.assertEqual(filled(tree, {3: block("x"), 2: blank(3), 1: blank(2)}), block("a", blank(2), blank(3), block("x")))

    def test_the_very_number_that_is_exchanged(self):
        tree = block("a", blank(1), blank(1))
        inner = block("b", blank(1), blank(2))
        self.assertEqual(filled(tree, {1: inner}), block("a", inner, inner))
        self.assertEqual(filled(tree, {1: inner, 2: block("x")}), block("a", inner, inner))

    def test_all_small_trees(self):
        for filling in fillings_of(FEW):
            for tree in SMALL:
                self.assertEqual(written(filled(tree, filling)), text_filled(tree, filling))

    def test_kinds(self):
        tree = filled(block("a", blank(1), block("b", blank(2))), {1: block("c"), 2: blank(1)})
        self.assertEqual([type(tree), type(tree[2]), type(tree[2][1]), type(tree[2][1][2])], [tuple] * 4)

    def test_the_filling_is_as_it_was(self):
        filling = {1: block("b", blank(1)), 2: blank(1), 5: block("x")}
        before = copy.deepcopy(filling)
        filled(block("a", blank(1), blank(2), blank(3)), filling)
        self.assertEqual(list(filling.items()), list(before.items()))
        self.assertRaises(TooLong, filled, many_blanks(400), filling)
        self.assertEqual(list(filling.items()), list(before.items()))

    def test_what_is_told_does_not_hang_on_the_filling(self):
        filling = {1: block("b")}
        told = filled(block("a", blank(1)), filling)
        filling[1] = block("c")
        self.assertEqual(told, block("a", block("b")))
        self.assertEqual(filled(block("a", blank(1)), filling), block("a", block("c")))


class FillingEdges(unittest.TestCase):
    def just(self, tree, filling, knots, depth):
        told = filled(tree, filling)
        self.assertEqual((knots_of(told), depth_of(told)), (knots, depth))

    def refused(self, tree, filling):
        self.assertRaises(TooLong, filled, tree, filling)

    def test_knots(self):
        tree = block("a", blank(1), blank(2))
        self.just(tree, {1: bushy(200), 2: bushy(199)}, 400, 5)
        self.refused(tree, {1: bushy(200), 2: bushy(200)})
        twice = block("a", blank(1), blank(1), block("b"))
        self.just(twice, {1: bushy(199)}, 400, 5)
        self.refused(twice, {1: bushy(200)})
        self.refused(block("a", blank(1)), {1: bushy(400)})
        self.just(block("a", blank(1)), {1: bushy(399)}, 400, 5)

    def test_depths(self):
        tree = block("a", block("b"), blank(1))
        self.just(tree, {1: chain(59)}, 61, 60)
        self.refused(tree, {1: chain(60)})
        self.just(hung(30, blank(1)), {1: chain(31)}, 60, 60)
        self.refused(hung(31, blank(1)), {1: chain(31)})
        self.refused(hung(30, blank(1)), {1: chain(32)})
        self.refused(hung(60, blank(1)), {1: chain(60)})

    def test_the_tree_at_the_bound_of_knots(self):
        tree = block("a", blank(1), bushy(398))
        self.assertEqual(knots_of(tree), 400)
        self.just(tree, {}, 400, 5)
        self.just(tree, {1: block("b")}, 400, 5)
        self.just(tree, {1: blank(1)}, 400, 5)
        self.refused(tree, {1: block("b", block("c"))})
        self.refused(tree, {1: bushy(400)})
        self.refused(many_blanks(400), {1: block("b", block("c"))})
        self.refused(many_blanks(400), {1: bushy(400)})

    def test_the_tree_at_the_bound_of_depth(self):
        tree = hung(60, blank(1))
        self.just(tree, {}, 60, 60)
        self.just(tree, {1: block("b")}, 60, 60)
        self.refused(tree, {1: block("b", block("c"))})
        beside = block("a", blank(2), hung(59, blank(1)))
        self.just(beside, {2: chain(59)}, 119, 60)
        self.refused(beside, {2: chain(60)})

    def test_the_tree_at_both_bounds(self):
        tree = block("a", hung(59, blank(1)), bushy(340))
        self.just(tree, {1: block("b")}, 400, 60)
        self.refused(tree, {1: block("b", block("c"))})

    def test_the_trees_of_the_filling_at_a_bound(self):
        self.just(blank(1), {1: bushy(400)}, 400, 4)
        self.just(blank(1), {1: chain(60)}, 60, 60)

    def test_what_would_come_counts_alone(self):
        self.refused(bushy(401), {})
        self.refused(chain(61), {})
        self.refused(blank(1), {1: bushy(401)})
        self.refused(blank(1), {1: chain(61)})
        self.just(blank(2), {1: bushy(401), 3: chain(61)}, 1, 1)


class OneBehind(unittest.TestCase):
    def test_trees_of_the_first_are_filled_by_the_second(self):
        one = {1: block("a", blank(2), blank(3)), 4: blank(2), 5: block("b"), 6: blank(6)}
        other = {2: block("x", blank(2)), 9: block("y")}
        self.assertEqual(one_behind(one, other), {
            1: block("a", block("x", blank(2)), blank(3)),
            4: block("x", blank(2)),
            5: block("b"),
            6: blank(6),
            2: block("x", blank(2)),
            9: block("y"),
        })

    def test_a_number_that_both_have(self):
        self.assertEqual(one_behind({1: block("a")}, {1: block("b")}), {1: block("a")})
        self.assertEqual(one_behind({1: blank(1)}, {1: block("b")}), {1: block("b")})
        self.assertEqual(one_behind({1: block("a", blank(1))}, {1: block("b", blank(1))}), {1: block("a", block("b", blank(1)))})
        self.assertEqual(one_behind({1: blank(2), 2: blank(1)}, {1: block("x"), 2: block("y")}), {1: block("y"), 2: block("x")})

    def test_other_numbers_of_the_second_are_not_filled(self):
        self.assertEqual(one_behind({1: block("a")}, {2: blank(1), 3: blank(2)}), {1: block("a"), 2: blank(1), 3: blank(2)})
        self.assertEqual(one_behind({}, {2: blank(2), 3: blank(2)}), {2: blank(2), 3: blank(2)})

    def test_empty_ones(self):
        filling = {1: block("a", blank(1)), 2: blank(3)}
        self.assertEqual(one_behind({}, {}), {})
        self.assertEqual(one_behind(filling, {}), filling)
        self.assertEqual(one_behind({}, filling), filling)

    def test_a_tree_filled_by_it_is_filled_by_both(self):
        trees = trees_up_to(3, LEAVES, ["a"])
        fillings = fillings_of(FEW)
        for one, other in itertools.product(fillings, repeat=2):
            both = one_behind(one, other)
            self.assertEqual(sorted(both), sorted(set(one) | set(other)))
            for tree in trees:
                self.assertEqual(filled(tree, both), filled(filled(tree, one), other))

    def test_three_go_in_any_grouping(self):
        fillings = fillings_of([block("b"), blank(2), block("a", blank(1))])
        for one, two, three in itertools.product(fillings, repeat=3):
            self.assertEqual(one_behind(one_behind(one, two), three), one_behind(one, one_behind(two, three)))

    def test_too_many_knots(self):
        one = {1: block("b"), 2: block("a", blank(3), blank(3))}
        self.assertEqual(knots_of(one_behind(one, {3: bushy(199)})[2]), 399)
        self.assertRaises(TooLong, one_behind, one, {3: bushy(200)})
        full = {1: block("a", blank(3), bushy(398))}
        self.assertEqual(knots_of(one_behind(full, {3: block("b")})[1]), 400)
        self.assertRaises(TooLong, one_behind, full, {3: block("b", block("c"))})
        self.assertRaises(TooLong, one_behind, {2: block("b"), 1: many_blanks(400)}, {1: bushy(400)})

    def test_too_deep(self):
        self.assertEqual(depth_of(one_behind({1: hung(30, blank(2))}, {2: chain(31)})[1]), 60)
        self.assertRaises(TooLong, one_behind, {1: hung(30, blank(2))}, {2: chain(32)})
        self.assertRaises(TooLong, one_behind, {1: block("b"), 4: hung(60, blank(2))}, {2: chain(2)})

    def test_at_the_bounds(self):
        self.assertEqual(one_behind({1: bushy(400)}, {2: chain(60)}), {1: bushy(400), 2: chain(60)})
        self.assertEqual(one_behind({1: chain(60)}, {2: bushy(400)}), {1: chain(60), 2: bushy(400)})

    def test_no_tree_that_is_told_is_too_great(self):
        for tree in [bushy(401), chain(61)]:
            self.assertRaises(TooLong, one_behind, {1: tree}, {})
            self.assertRaises(TooLong, one_behind, {}, {1: tree})
            self.assertEqual(one_behind({1: block("b")}, {1: tree}), {1: block("b")})

    def test_both_are_as_they_were(self):
        one = {1: block("a", blank(2)), 3: blank(1)}
        other = {2: block("b", blank(2)), 3: block("c"), 4: blank(1)}
        before = list(one.items()), list(other.items())
        one_behind(one, other)
        one_behind(other, one)
        self.assertEqual((list(one.items()), list(other.items())), before)
        one_behind(one, one)
        self.assertEqual(list(one.items()), before[0])
        one[9] = many_blanks(400)
        self.assertRaises(TooLong, one_behind, one, {1: chain(2)})
        self.assertEqual(one, dict(before[0] + [(9, many_blanks(400))]))

    def test_the_dict_is_the_askers_own(self):
        for one, other in [({1: blank(2)}, {2: block("b")}), ({}, {2: block("b")}), ({1: blank(2)}, {}), ({}, {})]:
            before = dict(one), dict(other)
            told = one_behind(one, other)
            self.assertIs(type(told), dict)
            again = one_behind(one, other)
            told[1] = block("changed")
            told[77] = block("more")
            self.assertEqual((one, other), before)
            self.assertEqual(again, one_behind(one, other))
            kept = dict(again)
            one[2] = block("later")
            other.clear()
            self.assertEqual(again, kept)


class PlainNamings(unittest.TestCase):
    def test_numbered_by_first_standing(self):
        tree = block("a", blank(9), block("b", blank(3), blank(9)), blank(10 ** 9), blank(3))
        self.assertEqual(plain(tree), block("a", blank(1), block("b", blank(2), blank(1)), blank(3), blank(2)))

    def test_a_deep_one_ahead_of_a_later_one(self):
        tree = block("a", block("b", block("c", blank(5))), blank(4))
        self.assertEqual(plain(tree), block("a", block("b", block("c", blank(1))), blank(2)))

    def test_numbers_that_change_places(self):
        self.assertEqual(plain(block("a", blank(2), blank(1))), block("a", blank(1), blank(2)))
        self.assertEqual(plain(block("a", blank(2), blank(3), blank(1))), block("a", blank(1), blank(2), blank(3)))
        self.assertEqual(plain(block("a", blank(3), blank(1), blank(3), blank(2))), block("a", blank(1), blank(2), blank(1), blank(3)))

    def test_without_blanks_and_a_blank_alone(self):
        self.assertEqual(plain(block("a", block("b"))), block("a", block("b")))
        self.assertEqual(plain(blank(1)), blank(1))
        self.assertEqual(plain(blank(10 ** 9)), blank(1))
        self.assertEqual(plain(blank(2 * 10 ** 9)), blank(1))

    def test_all_small_trees(self):
        for tree in trees_up_to(4, [block("b"), blank(3), blank(1), blank(2)], ["a"]):
            told = plain(tree)
            self.assertEqual(blanks_of(told), list(range(1, len(blanks_of(tree)) + 1)))
            back = dict(zip(blanks_of(told), blanks_of(tree)))
            self.assertEqual(text_filled(told, {k: blank(n) for k, n in back.items()}), written(tree))
            self.assertEqual(plain(told), told)

    def test_edges(self):
        self.assertEqual(plain(bushy(400)), bushy(400))
        self.assertEqual(plain(hung(60, blank(8))), hung(60, blank(1)))
        rows = [[blank(1000 - 9 * row - k) for k in range(9)] for row in range(9)]
        named = [[blank(9 * row + k + 1) for k in range(9)] for row in range(9)]
        self.assertEqual(
            plain(block("a", *[block("b", *row) for row in rows])),
            block("a", *[block("b", *row) for row in named]),
        )

    def test_beyond_the_edges_nothing_is_refused(self):
        self.assertEqual(plain(bushy(401)), bushy(401))
        self.assertEqual(plain(hung(70, blank(8))), hung(70, blank(1)))


class Alike(unittest.TestCase):
    def test_alike(self):
        for one, other in [
            (blank(1), blank(99)),
            (block("a"), block("a")),
            (block("a", blank(1), blank(2)), block("a", blank(2), blank(1))),
            (block("a", blank(1), blank(1)), block("a", blank(2), blank(2))),
            (block("a", blank(5), block("b", blank(6), blank(5))), block("a", blank(6), block("b", blank(7), blank(6)))),
            (hung(60, blank(3)), hung(60, blank(4))),
        ]:
            with self.subTest(one=one, other=other):
                self.assertIs(alike(one, other), True)
                self.assertIs(alike(other, one), True)

    def test_not_alike(self):
        for one, other in [
            (block("a", blank(1), blank(2)), block("a", blank(1), blank(1))),
            (block("a", blank(1), blank(2), blank(1)), block("a", blank(1), blank(2), blank(2))),
            (block("a"), block("b")),
            (block("a", blank(1)), block("b", blank(1))),
            (block("a", blank(1)), block("a", blank(1), blank(1))),
            (block("a"), block("a", blank(1))),
            (blank(1), block("a")),
            (block("a", blank(1)), block("a", block("b"))),
            (block("a", block("b"), block("c")), block("a", block("c"), block("b"))),
        ]:
            with self.subTest(one=one, other=other):
                self.assertIs(alike(one, other), False)
                self.assertIs(alike(other, one), False)

    def test_just_where_the_names_can_be_turned_into_each_other(self):
        trees = trees_up_to(3, [block("b"), blank(1), blank(2)], ["a"])
        namings = [{}, {1: blank(2), 2: blank(1)}]
        for one, other in itertools.product(trees, repeat=2):
            turned = any(text_filled(one, naming) == written(other) for naming in namings)
            self.assertIs(alike(one, other), turned)


if __name__ == "__main__":
    unittest.main()
