"""Points 2 and 4 to 6: names, knots, depths, places, blanks, parts."""

import unittest

from commonform.errors import NoPlace
from commonform.trees import blanks_of, depth_of, is_name, knots_of, part_at, places_of, put_at
from making import blank, block, bushy, chain

# a(b(?2,c),?7,d(e(?2,?1))), with leaves, blanks and inner blocks
TREE = block("a", block("b", blank(2), block("c")), blank(7), block("d", block("e", blank(2), blank(1))))

PLACES = [(), (0,), (0, 0), (0, 1), (1,), (2,), (2, 0), (2, 0, 0), (2, 0, 1)]

# part numbers equal to the count of parts, far beyond, below 0; numbers behind a leaf or a blank
NOT_THERE = [
    (3,), (4,), (10 ** 30,), (-1,), (-3,), (-10 ** 30,),
    (0, 2), (0, -1), (2, 1), (2, -1), (2, 0, 2), (2, 0, 99),
    (0, 1, 0), (0, 1, -1), (1, 0), (1, 1), (1, 2), (1, -1), (0, 0, 0), (2, 0, 1, 0),
    (3, 0), (0, 5, 0), (-1, 0), (0,) * 5000,
]


class Names(unittest.TestCase):
    def test_names(self):
        for text in ["a", "z", "a0", "a9", "zz", "letter", "abcdefghijkl", "a12345678901", "mnopqrstuvwx", "yz"]:
            with self.subTest(text):
                self.assertIs(is_name(text), True)

    def test_lengths(self):
        for length in range(0, 30):
            with self.subTest(length):
                self.assertIs(is_name("a" * length), 1 <= length <= 12)

    def test_first_sign_is_no_figure(self):
        for text in ["0", "9", "1a", "0abc", "123456789012"]:
            with self.subTest(text):
                self.assertIs(is_name(text), False)

    def test_every_sign_at_every_standing(self):
        letters = "abcdefghijklmnopqrstuvwxyz"
        figures = "0123456789"
        for sign in [chr(k) for k in range(32, 127)] + ["\t", "\n"]:
            with self.subTest(sign):
                self.assertIs(is_name(sign), sign in letters)
                self.assertIs(is_name(sign + "b"), sign in letters)
                self.assertIs(is_name("b" + sign), sign in letters + figures)
                self.assertIs(is_name("b" + sign + "b"), sign in letters + figures)
                self.assertIs(is_name("bcdefghijkl" + sign), sign in letters + figures)

    def test_wrong_texts(self):
        for text in ["", "A", "aB", " ", " a", "a ", "a b", "\t", "a\t", "\n", "a\n", "abcdefghijkl\n", "a_b", "a-b"]:
            with self.subTest(text):
                self.assertIs(is_name(text), False)


class Sizes(unittest.TestCase):
    def check(self, tree, knots, depth):
        self.assertEqual(knots_of(tree), knots)
        self.assertEqual(depth_of(tree), depth)

    def test_without_parts(self):
        self.check(blank(1), 1, 1)
        self.check(blank(10 ** 9), 1, 1)
        self.check(block("a"), 1, 1)

    def test_ordinary(self):
        self.check(block("a", blank(1)), 2, 2)
        self.check(TREE, 9, 4)

    def test_the_deepest_part_counts_wherever_it_is(self):
        for number in range(3):
            parts = [block("b"), blank(1), block("c", blank(1))]
            parts[number] = chain(6)
            with self.subTest(number):
                self.assertEqual(depth_of(block("a", *parts)), 7)

    def test_each_knot_counts_as_often_as_it_stands(self):
        same = block("b", blank(1), blank(1))
        self.check(block("a", same, same, same), 10, 3)

    def test_nine_parts(self):
        nine = block("b", *[blank(1)] * 9)
        self.check(nine, 10, 2)
        self.check(block("a", *[nine] * 9), 91, 3)

    def test_edges(self):
        self.check(bushy(200), 200, 4)
        self.check(chain(30), 30, 30)
        self.check(block("a", chain(29), *[bushy(20)] * 8), 190, 30)

    def test_beyond_the_edges_nothing_is_refused(self):
        self.check(bushy(400), 400, 4)
        self.check(chain(60), 60, 60)
        self.check(chain(120), 120, 120)


class Places(unittest.TestCase):
    def test_order(self):
        self.assertEqual(places_of(TREE), PLACES)

    def test_without_parts(self):
        self.assertEqual(places_of(blank(3)), [()])
        self.assertEqual(places_of(block("a")), [()])

    def test_edges(self):
        self.assertEqual(places_of(chain(30)), [(0,) * k for k in range(30)])
        nine = block("a", *[blank(1)] * 9)
        self.assertEqual(places_of(nine), [()] + [(k,) for k in range(9)])
        places = places_of(bushy(200))
        self.assertEqual(len(places), 200)
        self.assertEqual(places, sorted(set(places)))

    def test_kinds(self):
        places = places_of(TREE)
        self.assertIs(type(places), list)
        self.assertEqual([type(place) for place in places], [tuple] * 9)

    def test_the_list_is_the_askers_own(self):
        told = places_of(TREE)
        told.append("more")
        told[0] = "other"
        self.assertEqual(places_of(TREE), PLACES)
        told = places_of(TREE)
        later = places_of(TREE)
        later.clear()
        self.assertEqual(told, PLACES)


class Blanks(unittest.TestCase):
    def test_order_of_first_standing(self):
        self.assertEqual(blanks_of(TREE), [2, 7, 1])
        self.assertEqual(blanks_of(block("a", blank(3), blank(1), blank(3), blank(2), blank(1))), [3, 1, 2])

    def test_a_deep_one_ahead_of_a_later_one(self):
        self.assertEqual(blanks_of(block("a", block("b", block("c", blank(9))), blank(4))), [9, 4])

    def test_without_blanks(self):
        self.assertEqual(blanks_of(block("a")), [])
        self.assertEqual(blanks_of(chain(30)), [])

    def test_a_blank_alone(self):
        self.assertEqual(blanks_of(blank(1)), [1])
        self.assertEqual(blanks_of(blank(10 ** 9)), [10 ** 9])

    def test_the_list_is_the_askers_own(self):
        told = blanks_of(TREE)
        self.assertIs(type(told), list)
        told.append(5)
        told[0] = 8
        self.assertEqual(blanks_of(TREE), [2, 7, 1])
        told = blanks_of(TREE)
        later = blanks_of(TREE)
        later.clear()
        self.assertEqual(told, [2, 7, 1])
        none = blanks_of(block("a"))
        none.append(1)
        self.assertEqual(blanks_of(block("a")), [])


class Parts(unittest.TestCase):
    def test_part_at_each_place(self):
        parts = [
            TREE,
            block("b", blank(2), block("c")), blank(2), block("c"),
            blank(7),
            block("d", block("e", blank(2), blank(1))), block("e", blank(2), blank(1)), blank(2), blank(1),
        ]
        self.assertEqual([part_at(TREE, place) for place in PLACES], parts)

    def test_part_at_a_place_that_is_not_there(self):
        for place in NOT_THERE:
            with self.subTest(place[:9]):
                self.assertRaises(NoPlace, part_at, TREE, place)

    def test_a_tree_without_parts_has_one_place(self):
        for tree in [blank(1), block("a")]:
            self.assertEqual(part_at(tree, ()), tree)
            self.assertEqual(put_at(tree, (), TREE), TREE)
            for place in [(0,), (1,), (2,), (-1,), (0, 0)]:
                with self.subTest(tree=tree, place=place):
                    self.assertRaises(NoPlace, part_at, tree, place)
                    self.assertRaises(NoPlace, put_at, tree, place, TREE)

    def test_edges(self):
        self.assertEqual(part_at(chain(30), (0,) * 29), block("a"))
        self.assertRaises(NoPlace, part_at, chain(30), (0,) * 30)
        nine = block("a", *[blank(k) for k in range(1, 10)])
        self.assertEqual(part_at(nine, (8,)), blank(9))
        self.assertRaises(NoPlace, part_at, nine, (9,))


class Puttings(unittest.TestCase):
    def test_at_the_tree_itself(self):
        self.assertEqual(put_at(TREE, (), blank(5)), blank(5))

    def test_at_an_inner_place(self):
        self.assertEqual(
            put_at(TREE, (2, 0), block("x", blank(3))),
            block("a", block("b", blank(2), block("c")), blank(7), block("d", block("x", blank(3)))),
        )
        self.assertEqual(
            put_at(TREE, (0,), blank(3)),
            block("a", blank(3), blank(7), block("d", block("e", blank(2), blank(1)))),
        )

    def test_at_a_leaf(self):
        self.assertEqual(
            put_at(TREE, (0, 1), TREE),
            block("a", block("b", blank(2), TREE), blank(7), block("d", block("e", blank(2), blank(1)))),
        )

    def test_at_a_blank(self):
        self.assertEqual(
            put_at(TREE, (2, 0, 0), block("x")),
            block("a", block("b", blank(2), block("c")), blank(7), block("d", block("e", block("x"), blank(1)))),
        )

    def test_at_each_place_all_else_stays(self):
        new = block("new", blank(77))
        for place in PLACES:
            put = put_at(TREE, place, new)
            self.assertEqual(part_at(put, place), new)
            self.assertEqual(put_at(put, place, part_at(TREE, place)), TREE)
            for other in PLACES:
                apart = other[:len(place)] != place and place[:len(other)] != other
                if apart:
                    with self.subTest(place=place, other=other):
                        self.assertEqual(part_at(put, other), part_at(TREE, other))

    def test_at_a_place_that_is_not_there(self):
        for place in NOT_THERE:
            with self.subTest(place[:9]):
                self.assertRaises(NoPlace, put_at, TREE, place, block("x"))

    def test_edges(self):
        self.assertEqual(put_at(chain(29), (0,) * 28, chain(2)), chain(30))
        self.assertRaises(NoPlace, put_at, chain(30), (0,) * 30, block("x"))
        nine = block("a", *[blank(k) for k in range(1, 10)])
        self.assertEqual(put_at(nine, (8,), blank(1)), block("a", *[blank(k) for k in range(1, 9)], blank(1)))
        self.assertRaises(NoPlace, put_at, nine, (9,), block("x"))

    def test_beyond_the_edges_nothing_is_refused(self):
        self.assertEqual(knots_of(put_at(bushy(200), (0,), bushy(200))), 200 - knots_of(part_at(bushy(200), (0,))) + 200)
        self.assertEqual(depth_of(put_at(chain(30), (0,) * 29, chain(30))), 59)

    def test_what_was_handed_in_is_as_it_was(self):
        tree = block("a", block("b"), blank(1))
        put_at(tree, (0,), blank(2))
        self.assertEqual(tree, ("block", "a", (("block", "b", ()), ("blank", 1))))


if __name__ == "__main__":
    unittest.main()
