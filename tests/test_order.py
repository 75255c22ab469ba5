"""Points 2 and 12 to 14: the order of forms."""

import itertools
import unittest

from commonform.fillings import filled, one_behind
from commonform.order import first_clash, fitting
from commonform.trees import blanks_of, part_at, places_of
from making import blank, block, bushy, chain, hung, trees_up_to

SMALL = trees_up_to(3, [block("a"), block("b"), blank(1), blank(2)], ["a", "b"])
A = block("a")
B = block("b")
C = block("c")


def searched(form, tree):
    """The filling that is the tree, found by trying all of the tree's parts for each blank; or None."""
    parts = sorted({part_at(tree, place) for place in places_of(tree)})
    numbers = blanks_of(form)
    for row in itertools.product(parts, repeat=len(numbers)):
        filling = dict(zip(numbers, row))
        if filled(form, filling) == tree:
            return filling
    return None


def clash_at(form, tree, place):
    """What clashes at this place of the form, where nothing did ahead of it; or None."""
    here = part_at(form, place)
    there = part_at(tree, place)
    if here[0] == "blank":
        elder = [other for other in places_of(form) if part_at(form, other) == here][0]
        return None if part_at(tree, elder) == there else ("twice", elder, place)
    if there[0] == "blank" or (here[1], len(here[2])) != (there[1], len(there[2])):
        return ("unlike", place)
    return None


def searched_clash(form, tree):
    """The first clash, found place by place."""
    for place in places_of(form):
        clash = clash_at(form, tree, place)
        if clash is not None:
            return clash
    return None


class Fitting(unittest.TestCase):
    def test_the_filling_that_makes_the_tree(self):
        form = block("a", blank(7), block("b", blank(2)), blank(7))
        tree = block("a", block("c", blank(1)), block("b", A), block("c", blank(1)))
        self.assertEqual(fitting(form, tree), {7: block("c", blank(1)), 2: A})

    def test_just_the_forms_blanks(self):
        self.assertEqual(fitting(block("a", blank(5)), block("a", block("b", blank(1), blank(2)))), {5: block("b", blank(1), blank(2))})
        self.assertEqual(fitting(block("a", blank(1), blank(2)), block("a", blank(2), blank(1))), {1: blank(2), 2: blank(1)})
        self.assertEqual(fitting(block("a", blank(1), blank(2)), block("a", blank(9), blank(9))), {1: blank(9), 2: blank(9)})

    def test_of_a_letter_the_empty_filling(self):
        letter = block("a", B, block("c", A))
        told = fitting(letter, letter)
        self.assertEqual(told, {})
        self.assertIs(type(told), dict)

    def test_none(self):
        for form, tree in [
            (A, B),
            (A, blank(1)),
            (A, block("a", B)),
            (block("a", blank(1)), A),
            (block("a", blank(1)), block("a", B, B)),
            (block("a", blank(1), blank(1)), block("a", A, B)),
            (block("a", blank(1), blank(1)), block("a", blank(1), blank(2))),
            (block("a", blank(1), A), block("a", A, B)),
            (block("a", A), block("a", blank(1))),
        ]:
            with self.subTest(form=form, tree=tree):
                self.assertIsNone(fitting(form, tree))

    def test_a_form_above_itself(self):
        for form in SMALL + [bushy(400), hung(60, blank(3))]:
            self.assertEqual(fitting(form, form), {number: blank(number) for number in blanks_of(form)})

    def test_a_blank_above_every_tree(self):
        for tree in SMALL + [bushy(400), chain(60)]:
            self.assertEqual(fitting(blank(3), tree), {3: tree})
            self.assertEqual(fitting(blank(1), tree), {1: tree})

    def test_all_small_pairs(self):
        for form, tree in itertools.product(SMALL, repeat=2):
            told = fitting(form, tree)
            self.assertEqual(told, searched(form, tree))
            if told is not None:
                self.assertEqual(sorted(told), sorted(blanks_of(form)))
                self.assertEqual(filled(form, told), tree)

    def test_edges(self):
        self.assertEqual(fitting(hung(60, blank(2)), chain(60)), {2: A})
        self.assertIsNone(fitting(chain(60), chain(59)))
        self.assertIsNone(fitting(hung(60, B), chain(60)))
        self.assertEqual(fitting(block("a", blank(1), blank(1), B), block("a", bushy(199), bushy(199), B)), {1: bushy(199)})
        self.assertIsNone(fitting(block("a", blank(1), blank(1)), block("a", bushy(199), bushy(200))))
        self.assertEqual(fitting(blank(10 ** 9), blank(1)), {10 ** 9: blank(1)})

    def test_beyond_the_edges_nothing_is_refused(self):
        self.assertEqual(fitting(hung(70, blank(2)), chain(70)), {2: A})
        self.assertEqual(fitting(blank(2), bushy(410)), {2: bushy(410)})
        self.assertEqual(fitting(blank(2 * 10 ** 9), A), {2 * 10 ** 9: A})

    def test_the_dict_is_the_askers_own(self):
        form = block("a", blank(1), blank(2))
        tree = block("a", A, B)
        told = fitting(form, tree)
        later = fitting(form, tree)
        later[1] = C
        later[9] = C
        self.assertEqual(told, {1: A, 2: B})
        self.assertEqual(fitting(form, tree), {1: A, 2: B})
        fitting(form, block("a", C, C))
        first_clash(form, A)
        self.assertEqual(told, {1: A, 2: B})
        empty = fitting(A, A)
        empty[1] = A
        self.assertEqual(fitting(A, A), {})


class Clashes(unittest.TestCase):
    def clashes(self, form, tree, clash):
        with self.subTest(form=form, tree=tree):
            self.assertEqual(first_clash(form, tree), clash)

    def test_a_block_against_a_blank(self):
        self.clashes(A, blank(1), ("unlike", ()))
        self.clashes(block("a", B), blank(1), ("unlike", ()))
        self.clashes(block("a", blank(1), block("b", A)), block("a", A, block("b", blank(1))), ("unlike", (1, 0)))

    def test_a_block_of_another_name(self):
        self.clashes(A, B, ("unlike", ()))
        self.clashes(block("a", blank(1)), block("b", A), ("unlike", ()))
        self.clashes(block("a", B, block("c", A)), block("a", B, block("c", B)), ("unlike", (1, 0)))

    def test_a_block_of_another_count_of_parts(self):
        self.clashes(A, block("a", B), ("unlike", ()))
        self.clashes(block("a", blank(1)), A, ("unlike", ()))
        self.clashes(block("a", blank(1), blank(1)), block("a", A), ("unlike", ()))
        self.clashes(block("a", blank(1)), block("a", A, A), ("unlike", ()))
        self.clashes(block("a", B, block("b", blank(1))), block("a", B, B), ("unlike", (1,)))

    def test_a_blank_with_unlike_trees(self):
        self.clashes(block("a", blank(1), blank(1)), block("a", A, B), ("twice", (0,), (1,)))
        self.clashes(block("a", blank(1), blank(1)), block("a", blank(1), blank(2)), ("twice", (0,), (1,)))
        self.clashes(block("a", blank(1), blank(1)), block("a", blank(1), B), ("twice", (0,), (1,)))
        self.clashes(block("a", blank(1), blank(1)), block("a", block("b", A), block("b", A, A)), ("twice", (0,), (1,)))
        self.clashes(block("a", block("b", blank(3)), B, block("c", A, blank(3))), block("a", block("b", A), B, block("c", A, B)), ("twice", (0, 0), (2, 1)))

    def test_the_elder_place_is_that_of_the_first_standing(self):
        form = block("a", blank(1), blank(1), blank(1))
        self.clashes(form, block("a", A, A, B), ("twice", (0,), (2,)))
        self.clashes(form, block("a", A, B, A), ("twice", (0,), (1,)))
        self.clashes(form, block("a", A, B, B), ("twice", (0,), (1,)))
        self.clashes(form, block("a", A, B, C), ("twice", (0,), (1,)))

    def test_each_blank_has_its_own_elder_place(self):
        form = block("a", blank(2), blank(1), blank(1), blank(2))
        self.clashes(form, block("a", A, B, B, C), ("twice", (0,), (3,)))
        self.clashes(form, block("a", A, B, C, C), ("twice", (1,), (2,)))
        self.clashes(form, block("a", A, B, A, B), ("twice", (1,), (2,)))

    def test_the_first_by_the_order_of_places(self):
        form = block("a", block("b", blank(1), A), blank(1), A)
        self.clashes(form, block("a", block("b", A, B), B, B), ("unlike", (0, 1)))
        self.clashes(form, block("a", block("b", A, A), B, B), ("twice", (0, 0), (1,)))
        self.clashes(form, block("a", block("b", A, A), A, B), ("unlike", (2,)))
        self.clashes(form, block("a", block("b", A), B, B), ("unlike", (0,)))
        self.clashes(form, block("b", block("b", A, B), B, B), ("unlike", ()))
        deep = block("a", block("b", block("c", A)), B)
        self.clashes(deep, block("a", block("b", block("c", B)), A), ("unlike", (0, 0, 0)))

    def test_what_lies_under_an_unlike_place_is_not_looked_at(self):
        form = block("a", block("b", blank(1), blank(1)), blank(1))
        self.clashes(form, block("a", block("c", A, B), C), ("unlike", (0,)))
        self.clashes(form, block("a", block("b", A, B, C), C), ("unlike", (0,)))
        self.clashes(form, block("a", blank(1), C), ("unlike", (0,)))

    def test_none_where_the_form_is_above(self):
        self.clashes(blank(1), block("a", blank(1), B), None)
        self.clashes(A, A, None)
        self.clashes(block("a", blank(1), block("b", blank(1))), block("a", C, block("b", C)), None)

    def test_all_small_pairs(self):
        for form, tree in itertools.product(SMALL, repeat=2):
            clash = first_clash(form, tree)
            self.assertEqual(clash, searched_clash(form, tree))
            self.assertIs(clash is None, fitting(form, tree) is not None)

    def test_blocks_of_three_parts(self):
        forms = [block("a", block("b", x), y, z) for x, y, z in itertools.product([A, blank(1), blank(2)], repeat=3)]
        trees = [block("a", block("b", x), y, z) for x, y, z in itertools.product([A, B, blank(1), block("a", A)], repeat=3)]
        for form, tree in itertools.product(forms, trees):
            self.assertEqual(first_clash(form, tree), searched_clash(form, tree))

    def test_edges(self):
        self.clashes(hung(60, B), chain(60), ("unlike", (0,) * 59))
        self.clashes(chain(60), chain(59), ("unlike", (0,) * 58))
        self.clashes(bushy(400), bushy(400), None)
        self.clashes(block("a", *[blank(1)] * 9), block("a", *[A] * 8, B), ("twice", (0,), (8,)))
        self.clashes(block("a", hung(59, blank(1)), blank(1)), block("a", chain(59), B), ("twice", (0,) * 59, (1,)))

    def test_kinds(self):
        clash = first_clash(block("a", blank(1), blank(1)), block("a", A, B))
        self.assertEqual([type(clash), type(clash[1]), type(clash[2])], [tuple] * 3)
        self.assertIs(type(first_clash(A, B)[1]), tuple)


class Following(unittest.TestCase):
    def test_below_what_is_below(self):
        upper = block("a", blank(1), blank(2))
        middle = block("a", block("b", blank(5)), blank(5))
        tree = block("a", block("b", C), C)
        self.assertEqual(fitting(upper, middle), {1: block("b", blank(5)), 2: blank(5)})
        self.assertEqual(fitting(middle, tree), {5: C})
        self.assertEqual(fitting(upper, tree), {1: block("b", C), 2: C})
        self.assertEqual(filled(upper, one_behind(fitting(upper, middle), fitting(middle, tree))), tree)

    def test_all_small_rows_of_three(self):
        below = {form: [tree for tree in SMALL if fitting(form, tree) is not None] for form in SMALL}
        for upper in SMALL:
            for middle in below[upper]:
                for tree in below[middle]:
                    both = one_behind(fitting(upper, middle), fitting(middle, tree))
                    told = fitting(upper, tree)
                    self.assertIsNotNone(told)
                    self.assertEqual(told, {number: both[number] for number in blanks_of(upper)})
                    self.assertEqual(filled(upper, both), tree)


if __name__ == "__main__":
    unittest.main()
