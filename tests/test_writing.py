"""Points 7 and 8: writing and reading."""

import itertools
import unittest

from commonform.errors import BadText, TooLong
from commonform.trees import depth_of, knots_of
from commonform.writing import read, written
from making import blank, block, bushy, chain

PAIRS = [
    (block("a"), "a"),
    (block("z9"), "z9"),
    (block("abcdefghijkl"), "abcdefghijkl"),
    (blank(1), "?1"),
    (blank(10), "?10"),
    (blank(907), "?907"),
    (blank(10 ** 9), "?1000000000"),
    (block("a", blank(1)), "a(?1)"),
    (block("a", block("b")), "a(b)"),
    (block("letter", block("head", blank(12)), blank(3), block("end")), "letter(head(?12),?3,end)"),
    (block("a", block("b", block("c")), block("d")), "a(b(c),d)"),
    (block("a", *[blank(k) for k in range(1, 10)]), "a(?1,?2,?3,?4,?5,?6,?7,?8,?9)"),
    (chain(4), "a(a(a(a)))"),
]

# A block whose 8 parts make 200 knots with it, without its last bracket: a comma may stand behind it.
OPEN_200 = written(block("a", *[bushy(25)] * 7, bushy(24)))[:-1]
# The same with 9 parts: a comma can't stand behind it.
NINE_OPEN_200 = written(block("a", *[bushy(22)] * 8, bushy(23)))[:-1]


class Writing(unittest.TestCase):
    def test_written(self):
        for tree, text in PAIRS:
            with self.subTest(text):
                self.assertEqual(written(tree), text)

    def test_beyond_the_edges_nothing_is_refused(self):
        self.assertEqual(written(blank(2 * 10 ** 9)), "?2000000000")
        self.assertEqual(written(chain(60)), "a(" * 59 + "a" + ")" * 59)
        self.assertEqual(written(bushy(400)).count("a"), 400)


class Reading(unittest.TestCase):
    def test_read(self):
        for tree, text in PAIRS:
            with self.subTest(text):
                self.assertEqual(read(text), tree)

    def test_what_is_written_is_read_as_the_same_tree(self):
        longest = "abcdefghijkl"
        greatest = blank(10 ** 9)
        trees = [
            bushy(200),
            chain(30),
            block("a", *[chain(29)] * 6, bushy(25)),
            block("a", *[block("b", *[greatest] * 9)] * 9),
            block(longest, *[block(longest, *[block(longest)] * 9)] * 9),
            greatest,
        ]
        for tree in trees:
            with self.subTest(knots=knots_of(tree), depth=depth_of(tree)):
                self.assertEqual(read(written(tree)), tree)

    def test_kinds(self):
        tree = read("a(?7,b)")
        self.assertIs(type(tree), tuple)
        self.assertIs(type(tree[2]), tuple)
        self.assertIs(type(tree[2][0][1]), int)


def names(length):
    """All names of this length over a, 0 and 1."""
    if length < 1:
        return []
    return ["a" + "".join(rest) for rest in itertools.product("a01", repeat=length - 1)]


def rows(length):
    """All writings of one tree or more, with commas between, that have this length."""
    found = list(trees(length))
    for first in range(1, length - 1):
        found += [one + "," + rest for one in trees(first) for rest in rows(length - first - 1)]
    return found


def trees(length):
    """All writings of trees over the signs a01?(), that have this length."""
    found = names(length)
    if length >= 2:
        found += ["?1" + "".join(rest) for rest in itertools.product("01", repeat=length - 2)]
    for first in range(1, length - 2):
        found += [name + "(" + row + ")" for name in names(first) for row in rows(length - first - 2)]
    return found


class Refusing(unittest.TestCase):
    def refuses(self, error, texts):
        for text in texts:
            with self.subTest(text=text[:40] + ".." + text[-40:], length=len(text)):
                self.assertRaises(error, read, text)

    def test_all_short_texts(self):
        for length in range(0, 7):
            good = set(trees(length))
            for signs in itertools.product("a01?(),", repeat=length):
                text = "".join(signs)
                if text in good:
                    self.assertEqual(written(read(text)), text)
                else:
                    self.assertRaises(BadText, read, text)

    def test_every_sign(self):
        small = "abcdefghijklmnopqrstuvwxyz"
        figures = "0123456789"
        for sign in [chr(k) for k in range(32, 127)] + ["\t", "\n"]:
            for text, allowed in [
                (sign, small),
                (sign + "b", small),
                ("b" + sign, small + figures),
                ("b(" + sign + ")", small),
                ("b(c" + sign + ")", small + figures),
                ("b(c)" + sign, ""),
                ("?" + sign, "123456789"),
                ("?1" + sign, figures),
                ("?" + sign + "1", "123456789"),
                ("b(?1" + sign + "?2)", ","),
            ]:
                with self.subTest(text):
                    if sign in allowed:
                        self.assertEqual(written(read(text)), text)
                    else:
                        self.assertRaises(BadText, read, text)

    def test_empty_texts_and_brackets(self):
        self.refuses(BadText, ["", "()", "a()", "a(b())", "a(b,())", "(a)", "a(,)", "a(b,)", "a(,b)", "a(b,,c)", "a(b)(c)"])

    def test_ends_too_early(self):
        text = "letter(head(?12,b),?3,end)"
        for length in [k for k in range(len(text)) if text[:k] not in ("l", "le", "let", "lett", "lette", "letter")]:
            with self.subTest(text[:length]):
                self.assertRaises(BadText, read, text[:length])

    def test_behind_the_end(self):
        self.refuses(BadText, ["a)", "a,", "a,b", "a(b))", "a(b),", "a(b)c", "a(b)?1", "?1?2", "?1a", "?1(a)", "?1,?2", "?1)"])
        self.refuses(BadText, ["a ", "a\n", "a\t", "a(b) ", "a(b)\n", "?1 ", "?1\n", " a", "a( b)", "a (b)", "a(b ,c)", "a%"])

    def test_names(self):
        self.assertEqual(read("abcdefghijkl"), block("abcdefghijkl"))
        self.assertEqual(read("a(b,abcdefghijkl(c))"), block("a", block("b"), block("abcdefghijkl", block("c"))))
        self.refuses(BadText, ["abcdefghijklm", "abcdefghijkl0", "abcdefghijklm(b)", "a(abcdefghijklm)", "a" * 4000])
        self.refuses(BadText, ["0", "0a", "9", "A", "aB", "a(1)", "a_b"])

    def test_numbers(self):
        self.assertEqual(read("?1"), blank(1))
        self.assertEqual(read("?999999999"), blank(999999999))
        self.assertEqual(read("?1000000000"), blank(10 ** 9))
        self.refuses(BadText, ["?1000000001", "?9999999999", "?10000000000", "?" + "1" * 3999, "?" + "9" * 6000])
        self.refuses(BadText, ["?0", "?00", "?01", "?0000000001", "a(?0)", "a(?01)", "?", "??", "?a", "?-1", "?+1", "? 1"])
        self.refuses(BadText, ["a(?)", "a(?,b)", "a(?1000000001,b)"])

    def test_nine_and_ten_parts(self):
        nine = "a(" + "b," * 8 + "b)"
        self.assertEqual(read(nine), block("a", *[block("b")] * 9))
        self.assertEqual(read("a(" + (nine + ",") * 8 + nine + ")"), block("a", *[block("a", *[block("b")] * 9)] * 9))
        self.refuses(BadText, ["a(" + "b," * 9 + "b)", "a(" + "?1," * 9 + "?1)", "c(a(" + "b," * 9 + "b))"])

    def test_knots(self):
        self.assertEqual(knots_of(read(OPEN_200 + ")")), 200)
        self.assertEqual(knots_of(read(NINE_OPEN_200 + ")")), 200)
        self.refuses(TooLong, [written(bushy(201)), OPEN_200 + ",b)", OPEN_200 + ",?1)", written(bushy(400))])

    def test_depths(self):
        self.assertEqual(read("a(" * 29 + "a" + ")" * 29), chain(30))
        self.assertEqual(depth_of(read("a(" * 29 + "b" + ")" * 29)), 30)
        self.assertEqual(depth_of(read("a(" * 29 + "?1" + ")" * 29)), 30)
        self.refuses(TooLong, ["a(" * 30 + "b" + ")" * 30, "a(" * 30 + "?1" + ")" * 30, "a(b,c(" + "a(" * 28 + "b" + ")" * 30])
        beside = "a(" + "a(" * 28 + "b" + ")" * 28 + "," + "a(" * 28 + "b" + ")" * 28 + ")"
        self.assertEqual(depth_of(read(beside)), 30)

    def test_begun_is_enough_for_too_long(self):
        self.refuses(TooLong, [OPEN_200 + ",b", OPEN_200 + ",?", OPEN_200 + ",?0", OPEN_200 + ",b A", OPEN_200 + ",b()"])
        self.refuses(TooLong, [OPEN_200 + "," + "b" * 13 + ")"])
        self.refuses(TooLong, ["a(" * 30 + "b", "a(" * 30 + "?", "a(" * 30 + "?0", "a(" * 30 + "b" * 13, "a(" * 30 + "b%"])

    def test_bad_text_ahead_of_too_long(self):
        self.refuses(BadText, ["A" + OPEN_200 + ",b)", "a(b ," + "a(" * 40, "a(?0," + "a(" * 40, "a()" + "a(" * 40])
        self.refuses(BadText, ["a(" * 29 + "b" * 13 + "(b" + ")" * 30, "a(" * 29 + "b()" + "(b", "a(" * 29 + "?1(b"])
        self.refuses(BadText, [OPEN_200.replace("a", "A", 1) + ",b)", OPEN_200 + "),b"])

    def test_too_long_ahead_of_bad_text(self):
        self.refuses(TooLong, ["a(" * 40 + "A", "a(" * 40 + "?0", "a(" * 1333, OPEN_200 + ",b,A)", OPEN_200 + ",b))))"])

    def test_at_the_edge_what_can_not_stand_is_bad_text(self):
        for sign in ["", ")", "(", ",", "0", "9", "A", " ", "%", "\n"]:
            self.refuses(BadText, [OPEN_200 + "," + sign, "a(" * 30 + sign])

    def test_a_sign_that_could_be_both(self):
        self.refuses(BadText, [NINE_OPEN_200 + ",b)", NINE_OPEN_200 + ",?1)", NINE_OPEN_200 + ",b"])
        nine_deep = "a(" * 29 + "b," * 8 + "b"
        self.assertEqual(depth_of(read(nine_deep + ")" * 29)), 30)
        self.refuses(BadText, [nine_deep + ",b", nine_deep + ",b(b" + ")" * 30])

    def test_long_rows_of_brackets(self):
        self.refuses(BadText, ["(" * 4000, ")" * 4000, "a" + "(" * 3999, "(" * 100000])
        self.refuses(TooLong, ["a(" * 2000, "a(" * 100000])


if __name__ == "__main__":
    unittest.main()
