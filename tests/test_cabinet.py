"""Points 2 and 24 to 27: the cabinet."""

import copy
import random
import unittest

from commonform.cabinet import Cabinet
from commonform.errors import BadName, NoForm, NoPlace, TooLong, Twice
from commonform.nearest import nearest_of
from commonform.order import first_clash, fitting
from commonform.papers import apart, walked
from commonform.trees import depth_of, knots_of, places_of, put_at
from commonform.widest import widest
from commonform.writing import read
from making import blank, block, bushy, chain, hung, random_form, unified

A = block("a")
B = block("b")
C = block("c")

LETTERS = {
    "n1": "note(to(ann),text(x))",
    "n2": "note(to(bob),text(x))",
    "n3": "note(to(ann),text(y))",
    "n4": "note(to(?1),text(?1))",
    "n5": "note(to(?1),text(?2))",
    "b1": "bill(sum(s3),pay(s3))",
    "b2": "bill(sum(s3),pay(s4))",
    "b3": "bill(sum(?9),pay(?9))",
    "b4": "bill(sum(?9),?4)",
    "any": "?7",
    "bare": "note",
}
ASKED = [
    "?1", "note", "bill", "note(?1,?2)", "note(?1,?1)", "note(to(?3),text(?3))", "note(to(ann),text(x))", "note(to(ann),?1)",
    "bill(?1,?2)", "bill(sum(?1),pay(?1))", "bill(sum(?1),pay(w(?1)))", "bill(sum(s3),pay(s3))", "bill(?1,?1)", "draft(?1)",
    "note(?1)", "note(to(?1),text(w(?1)))", "note(to(?5),?5)",
]


def filled_cabinet(forms):
    cabinet = Cabinet()
    for name, form in forms.items():
        cabinet.put(name, form)
    return cabinet


def letters():
    return {name: read(text) for name, text in LETTERS.items()}


def names_in(bough):
    if bough[0] == "leaf":
        return [bough[1]]
    return [name for inner in bough[2] for name in names_in(inner)]


def above(form, tree):
    return fitting(form, tree) is not None


def meets(one, other):
    return unified(one, apart(one, other), {})


class Checked(unittest.TestCase):
    """A cabinet against the forms that it should keep, looked through one by one."""

    def check_bough(self, bough, forms):
        self.assertIs(type(bough), tuple)
        if bough[0] == "leaf":
            self.assertEqual(len(bough), 2)
            self.assertIn(bough[1], forms)
            return
        self.assertEqual((bough[0], len(bough)), ("knot", 3))
        self.assertIs(type(bough[2]), list)
        self.assertGreaterEqual(len(bough[2]), 2)
        self.assertEqual(bough[1], nearest_of([forms[name] for name in names_in(bough)])[0])
        for inner in bough[2]:
            self.check_bough(inner, forms)

    def check_kept(self, cabinet, forms):
        self.assertEqual(cabinet.names(), sorted(forms))
        for name in forms:
            self.assertEqual(cabinet.form_of(name), forms[name])
        boughs = cabinet.boughs()
        if not forms:
            self.assertIsNone(boughs)
            return
        self.check_bough(boughs, forms)
        self.assertEqual(sorted(names_in(boughs)), sorted(forms))

    def check_row(self, row, forms, form, answers, question):
        """The names of a row, behind looking at what it tells."""
        self.assertIs(type(row), tuple)
        if row[0] == "one":
            self.assertEqual(len(row), 3)
            self.assertIs(row[2], row[1] in answers)
            return [row[1]]
        names = row[1]
        self.assertIs(type(names), list)
        self.assertEqual(names, sorted(names))
        self.assertGreaterEqual(len(names), 1)
        common = nearest_of([forms[name] for name in names])[0]
        if row[0] == "all":
            self.assertEqual((question, len(row)), ("below", 2))
            self.assertTrue(above(form, common))
            self.assertLessEqual(set(names), set(answers))
            return names
        self.assertEqual((row[0], len(row)), ("barred", 3))
        self.assertEqual(set(names) & set(answers), set())
        if question == "above":
            self.assertIsNotNone(row[2])
            self.assertEqual(row[2], first_clash(common, form))
        else:
            walked(form, apart(form, common), row[2])
        return names

    def check_question(self, cabinet, forms, form, question, is_answer):
        told = getattr(cabinet, question)(form)
        self.assertIs(type(told), tuple)
        names, rows = told
        self.assertEqual(names, sorted(name for name in forms if is_answer(forms[name])))
        self.assertEqual([type(names), type(rows)], [list, list])
        gone_through = [name for row in rows for name in self.check_row(row, forms, form, names, question)]
        self.assertEqual(sorted(gone_through), sorted(forms))
        return rows

    def check_questions(self, cabinet, forms, form):
        with self.subTest(form=form):
            return (
                self.check_question(cabinet, forms, form, "below", lambda kept: above(form, kept)),
                self.check_question(cabinet, forms, form, "above", lambda kept: above(kept, form)),
                self.check_question(cabinet, forms, form, "meeting", lambda kept: meets(form, kept)),
            )


class Kept(Checked):
    def test_an_empty_cabinet(self):
        cabinet = Cabinet()
        self.assertIsNone(cabinet.boughs())
        self.assertEqual(cabinet.names(), [])
        for form in [blank(1), A, bushy(200)]:
            for told in [cabinet.below(form), cabinet.above(form), cabinet.meeting(form)]:
                self.assertEqual(told, ([], []))

    def test_a_leaf_alone(self):
        for form in [A, blank(8), block("a", blank(3), blank(1))]:
            cabinet = filled_cabinet({"n": form})
            self.assertEqual(cabinet.boughs(), ("leaf", "n"))
            self.assertEqual(cabinet.form_of("n"), form)
            self.assertEqual(cabinet.names(), ["n"])

    def test_two_are_a_knot(self):
        cabinet = filled_cabinet({"n": block("a", A, C), "m": block("a", B, C)})
        told = cabinet.boughs()
        self.assertEqual(told[:2], ("knot", block("a", blank(1), C)))
        self.assertEqual(sorted(told[2]), [("leaf", "m"), ("leaf", "n")])

    def test_the_form_is_told_as_it_was_put(self):
        form = block("a", blank(9), blank(10 ** 9), blank(2), blank(9))
        self.assertEqual(filled_cabinet({"n": form, "m": form, "k": A}).form_of("m"), form)

    def test_puts_return_none(self):
        cabinet = Cabinet()
        self.assertIsNone(cabinet.put("n", A))
        self.assertIsNone(cabinet.change("n", (), B))
        self.assertIsNone(cabinet.take("n"))

    def test_each_put_and_each_take(self):
        forms = letters()
        cabinet = Cabinet()
        kept = {}
        for name in forms:
            cabinet.put(name, forms[name])
            kept[name] = forms[name]
            self.check_kept(cabinet, kept)
        for name in sorted(forms):
            cabinet.take(name)
            kept.pop(name)
            self.check_kept(cabinet, kept)

    def test_the_same_form_by_many_names(self):
        forms = {"n" + str(k): block("a", blank(k + 1), B) for k in range(12)}
        cabinet = filled_cabinet(forms)
        self.check_kept(cabinet, forms)
        for name in list(forms)[::2]:
            cabinet.take(name)
            forms.pop(name)
            self.check_kept(cabinet, forms)
        for form in [block("a", B, B), block("a", blank(1), blank(2)), block("a", blank(1), blank(1)), A, blank(1)]:
            self.check_questions(cabinet, forms, form)

    def test_each_form_wider_than_the_last(self):
        forms = {"n" + str(k): hung(30 - k % 30, blank(1)) for k in range(40)}
        cabinet = filled_cabinet(forms)
        self.check_kept(cabinet, forms)
        self.check_questions(cabinet, forms, hung(15, blank(1)))
        for name in list(forms):
            cabinet.take(name)
            forms.pop(name)
            self.check_kept(cabinet, forms)

    def test_each_form_narrower_than_the_last(self):
        forms = {"n" + str(k): hung(k % 30 + 1, blank(1)) for k in range(40)}
        cabinet = filled_cabinet(forms)
        self.check_kept(cabinet, forms)
        self.check_questions(cabinet, forms, hung(15, blank(1)))
        self.check_questions(cabinet, forms, chain(15))

    def test_forty_great_forms(self):
        forms = {"n" + str(k): block("a", bushy(196), block("k" + str(k % 4)), block("m" + str(k))) for k in range(40)}
        cabinet = filled_cabinet(forms)
        self.check_kept(cabinet, forms)
        for form in [block("a", bushy(196), block("k1"), blank(1)), block("a", blank(1), blank(1), blank(2)), bushy(200)]:
            self.check_questions(cabinet, forms, form)

    def test_somewhat_beyond_what_is_handed_in(self):
        forms = {"n": bushy(210), "m": chain(40), "k": hung(40, blank(1))}
        cabinet = filled_cabinet(forms)
        self.check_kept(cabinet, forms)
        for form in [bushy(210), chain(40), blank(1)]:
            self.check_questions(cabinet, forms, form)


class Refusals(Checked):
    def refused(self, cabinet, forms, error, method, *arguments):
        boughs = cabinet.boughs()
        with self.subTest(method=method, arguments=arguments):
            with self.assertRaises(error):
                getattr(cabinet, method)(*arguments)
            self.check_kept(cabinet, forms)
            self.assertEqual(cabinet.boughs(), boughs)

    def forty(self):
        forms = {"n" + str(k): block("a", block("k" + str(k)), blank(1)) for k in range(40)}
        return forms, filled_cabinet(forms)

    NO_NAMES = ["", "A", "aB", "1a", "a" * 13, "a b", " a", "a ", "a-b", "a_b", "a\n", "?1", "~"]

    def test_bad_name(self):
        forms = letters()
        cabinet = filled_cabinet(forms)
        for name in self.NO_NAMES:
            self.refused(cabinet, forms, BadName, "put", name, A)
            self.refused(Cabinet(), {}, BadName, "put", name, A)
        for name in ["a", "z", "a" * 12, "z9", "a00000000000"]:
            self.assertEqual(filled_cabinet({name: A}).names(), [name])

    def test_twice(self):
        forms = letters()
        cabinet = filled_cabinet(forms)
        for name in forms:
            self.refused(cabinet, forms, Twice, "put", name, A)
            self.refused(cabinet, forms, Twice, "put", name, forms[name])

    def test_too_long_at_40(self):
        forms, cabinet = self.forty()
        self.assertEqual(len(cabinet.names()), 40)
        self.refused(cabinet, forms, TooLong, "put", "more", A)
        self.refused(cabinet, forms, TooLong, "put", "more", forms["n1"])
        cabinet.take("n7")
        forms.pop("n7")
        cabinet.put("more", A)
        forms["more"] = A
        self.check_kept(cabinet, forms)
        self.refused(cabinet, forms, TooLong, "put", "n7", A)

    def test_their_order(self):
        forms, cabinet = self.forty()
        for name in self.NO_NAMES:
            self.refused(cabinet, forms, BadName, "put", name, A)
        for name in ["n0", "n39"]:
            self.refused(cabinet, forms, Twice, "put", name, A)

    def test_no_form(self):
        forms = letters()
        cabinet = filled_cabinet(forms)
        for name in ["n", "n11", "n9", "any1", "z"] + self.NO_NAMES:
            for method in ["take", "form_of"]:
                self.refused(cabinet, forms, NoForm, method, name)
                self.refused(Cabinet(), {}, NoForm, method, name)
            self.refused(cabinet, forms, NoForm, "change", name, (), A)
            self.refused(Cabinet(), {}, NoForm, "change", name, (), A)

    def test_what_was_taken_out_is_not_kept(self):
        forms = letters()
        cabinet = filled_cabinet(forms)
        cabinet.take("n1")
        first = forms.pop("n1")
        for method in ["take", "form_of"]:
            self.refused(cabinet, forms, NoForm, method, "n1")
        cabinet.put("n1", B)
        forms["n1"] = B
        self.assertNotEqual(first, B)
        self.check_kept(cabinet, forms)


class Questions(Checked):
    def test_all_that_are_asked(self):
        forms = letters()
        cabinet = filled_cabinet(forms)
        for text in ASKED:
            self.check_questions(cabinet, forms, read(text))
        for form in forms.values():
            self.check_questions(cabinet, forms, form)

    def test_answers_told_outright(self):
        cabinet = filled_cabinet(letters())
        self.assertEqual(cabinet.below(read("note(?1,?2)"))[0], ["n1", "n2", "n3", "n4", "n5"])
        self.assertEqual(cabinet.below(read("note(to(ann),?1)"))[0], ["n1", "n3"])
        self.assertEqual(cabinet.below(read("bill(sum(?1),pay(?1))"))[0], ["b1", "b3"])
        self.assertEqual(cabinet.below(read("?1"))[0], sorted(LETTERS))
        self.assertEqual(cabinet.above(read("bill(sum(s3),pay(s3))"))[0], ["any", "b1", "b3", "b4"])
        self.assertEqual(cabinet.above(read("note(to(?3),text(w))"))[0], ["any", "n5"])
        self.assertEqual(cabinet.above(read("?1"))[0], ["any"])
        self.assertEqual(cabinet.meeting(read("note(to(bob),text(?1))"))[0], ["any", "n2", "n4", "n5"])
        self.assertEqual(cabinet.meeting(read("bill(sum(?1),pay(w(?1)))"))[0], ["any", "b4"])
        self.assertEqual(cabinet.meeting(read("draft"))[0], ["any"])

    def test_a_leaf_alone_is_looked_at_by_itself(self):
        cabinet = filled_cabinet({"n": block("a", blank(5))})
        self.check_questions(cabinet, {"n": block("a", blank(5))}, block("a", blank(1)))
        self.assertEqual(cabinet.below(block("a", A)), ([], [("one", "n", False)]))
        self.assertEqual(cabinet.above(block("a", A)), (["n"], [("one", "n", True)]))
        self.assertEqual(cabinet.meeting(block("a", A)), (["n"], [("one", "n", True)]))
        self.assertEqual(cabinet.meeting(A), ([], [("one", "n", False)]))

    def test_whole_boughs_are_gone_through_in_one_row(self):
        forms = {name + str(k): block(name, block("k" + str(k)), blank(3)) for name in "abcd" for k in range(10)}
        cabinet = filled_cabinet(forms)
        below, over, meeting = self.check_questions(cabinet, forms, block("b", blank(1), blank(2)))
        under_b = sorted(name for name in forms if name[0] == "b")
        self.assertIn(("all", under_b), below)
        self.assertLessEqual(len(below), 5)
        self.assertLessEqual(len(meeting), 15)
        self.assertEqual([row[0] for row in below].count("barred"), 3)
        self.assertEqual([row[0] for row in meeting].count("barred"), 3)
        below, over, meeting = self.check_questions(cabinet, forms, block("b", block("k3"), A))
        self.assertIn("barred", [row[0] for row in over])
        self.assertLessEqual(len(over), 15)

    def test_all_rows_in_the_first_question_alone(self):
        forms = {"n" + str(k): block("a", block("k" + str(k))) for k in range(5)}
        cabinet = filled_cabinet(forms)
        below, over, meeting = self.check_questions(cabinet, forms, blank(4))
        self.assertEqual(below, [("all", sorted(forms))])
        self.assertEqual(sorted(meeting), [("one", name, True) for name in sorted(forms)])
        self.check_questions(filled_cabinet({"n": blank(1), "m": blank(2)}), {"n": blank(1), "m": blank(2)}, blank(3))

    def test_reasons_of_each_kind(self):
        forms = {"n" + str(k): block("a", blank(2), block("w", blank(2)), block("k" + str(k))) for k in range(3)}
        cabinet = filled_cabinet(forms)
        below, over, meeting = self.check_questions(cabinet, forms, block("b", blank(1)))
        self.assertEqual(below[0][2][1][0], "unlike")
        self.assertEqual(over, [("barred", ["n0", "n1", "n2"], ("unlike", ()))])
        below, over, meeting = self.check_questions(cabinet, forms, block("a", blank(1), blank(1), blank(2)))
        self.assertEqual(below[0][2][1][0], "within")
        self.assertEqual(meeting[0][2][1][0], "within")
        forms = {"n" + str(k): block("a", blank(2), blank(2), block("k" + str(k))) for k in range(3)}
        cabinet = filled_cabinet(forms)
        below, over, meeting = self.check_questions(cabinet, forms, block("a", A, B, C))
        self.assertEqual(over, [("barred", ["n0", "n1", "n2"], ("twice", (0,), (1,)))])

    def test_a_reason_from_blanks_of_the_same_numbers(self):
        forms = {"n" + str(k): block("a", blank(1), blank(2), blank(1), block("k" + str(k))) for k in range(3)}
        cabinet = filled_cabinet(forms)
        for form in [
            block("a", blank(2), blank(1), block("w", blank(2)), blank(3)),
            block("a", blank(1), blank(1), block("w", blank(1)), blank(1)),
            block("a", B, blank(10 ** 9), C, blank(1)),
        ]:
            below, over, meeting = self.check_questions(cabinet, forms, form)
            self.assertEqual(meeting[0][:2], ("barred", ["n0", "n1", "n2"]))

    def test_meeting_counts_what_would_be_too_long(self):
        form = block("a", blank(1), blank(1), blank(1))
        great = block("a", bushy(195), blank(1), blank(2))
        with self.assertRaises(TooLong):
            widest(form, great)
        forms = {"n": great}
        cabinet = filled_cabinet(forms)
        self.assertEqual(cabinet.meeting(form), (["n"], [("one", "n", True)]))
        self.assertEqual(cabinet.below(form), ([], [("one", "n", False)]))
        forms.update({"m": block("a", bushy(194), blank(1), blank(2)), "k": block("a", bushy(195), blank(1), B), "b": B})
        cabinet = filled_cabinet(forms)
        self.check_questions(cabinet, forms, form)
        self.assertEqual(cabinet.meeting(form)[0], ["m", "n"])
        self.assertEqual(cabinet.below(form)[0], [])

    def test_too_long_and_none_together(self):
        form = block("c", block("a", blank(1), blank(1), blank(1)), A)
        inner = block("a", bushy(190), blank(1), blank(2))
        forms = {"n": block("c", inner, A), "m": block("c", inner, B), "k": block("c", inner, blank(9)), "l": block("c", inner, C)}
        cabinet = filled_cabinet(forms)
        self.check_questions(cabinet, forms, form)
        self.assertEqual(cabinet.meeting(form)[0], ["k", "n"])

    def test_a_blank_a_letter_and_a_form_of_200_knots(self):
        great = block("a", bushy(198), blank(3))
        self.assertEqual(knots_of(great), 200)
        forms = letters()
        forms.update({"great": great, "wide": block("a", blank(1), blank(2)), "letter": block("a", bushy(198), B)})
        cabinet = filled_cabinet(forms)
        for form in [blank(10 ** 9), block("a", bushy(198), C), great, block("a", bushy(198), blank(10 ** 9)), bushy(200), chain(30)]:
            self.check_questions(cabinet, forms, form)
        self.assertEqual(cabinet.below(great)[0], ["great", "letter"])
        self.assertEqual(cabinet.above(great)[0], ["any", "great", "wide"])
        self.assertEqual(cabinet.meeting(great)[0], ["any", "great", "letter", "wide"])

    def test_names_are_sorted(self):
        for row in [["b", "a10", "a9", "z", "a", "c"], ["z", "y", "x", "a"], ["a", "ab", "a1", "b"]]:
            forms = {name: block("a", block(name)) for name in row}
            cabinet = filled_cabinet(forms)
            self.assertEqual(cabinet.names(), sorted(row))
            self.assertEqual(cabinet.below(blank(1)), (sorted(row), [("all", sorted(row))]))
            self.assertEqual(cabinet.meeting(blank(1))[0], sorted(row))
            self.assertEqual(cabinet.meeting(B)[1][0][:2], ("barred", sorted(row)))
            self.assertEqual(cabinet.above(B)[1][0][:2], ("barred", sorted(row)))


class Changes(Checked):
    def test_as_taking_out_and_putting(self):
        forms = letters()
        cabinet = filled_cabinet(forms)
        for name, place, part in [
            ("n1", (0, 0), read("bob")),
            ("n1", (), read("bill(sum(s3),pay(s3))")),
            ("b3", (1,), read("?9")),
            ("any", (), read("note(?1,?1)")),
            ("any", (1,), read("?2")),
            ("bare", (), read("?3")),
            ("n5", (1, 0), read("?1")),
        ]:
            other = filled_cabinet(forms)
            forms[name] = put_at(forms[name], place, part)
            other.take(name)
            other.put(name, forms[name])
            cabinet.change(name, place, part)
            self.check_kept(cabinet, forms)
            self.check_kept(other, forms)
            for text in ASKED:
                self.check_questions(cabinet, forms, read(text))

    def test_of_a_form_alone(self):
        cabinet = filled_cabinet({"n": block("a", B)})
        cabinet.change("n", (0,), blank(4))
        self.check_kept(cabinet, {"n": block("a", blank(4))})
        cabinet.change("n", (), C)
        self.check_kept(cabinet, {"n": C})

    def test_where_40_are_kept(self):
        forms = {"n" + str(k): block("a", block("k" + str(k))) for k in range(40)}
        cabinet = filled_cabinet(forms)
        cabinet.change("n5", (0,), blank(1))
        forms["n5"] = block("a", blank(1))
        self.check_kept(cabinet, forms)

    def refused(self, cabinet, forms, error, *arguments):
        boughs = cabinet.boughs()
        with self.subTest(arguments=arguments), self.assertRaises(error):
            cabinet.change(*arguments)
        self.check_kept(cabinet, forms)
        self.assertEqual(cabinet.boughs(), boughs)

    def test_no_place(self):
        forms = {"n": block("a", B, blank(1)), "m": A}
        cabinet = filled_cabinet(forms)
        for place in [(2,), (-1,), (0, 0), (1, 0), (10 ** 30,), (-10 ** 30,), (0, -1), (5, 5, 5)]:
            self.refused(cabinet, forms, NoPlace, "n", place, A)

    def test_just_200_knots_and_201(self):
        forms = {"n": block("a", A, B), "m": A}
        cabinet = filled_cabinet(forms)
        self.refused(cabinet, forms, TooLong, "n", (0,), bushy(199))
        self.refused(cabinet, forms, TooLong, "n", (), bushy(201))
        cabinet.change("n", (0,), bushy(198))
        forms["n"] = block("a", bushy(198), B)
        self.assertEqual(knots_of(forms["n"]), 200)
        self.check_kept(cabinet, forms)
        self.refused(cabinet, forms, TooLong, "n", (1,), block("a", B))
        cabinet.change("n", (1,), blank(1))
        cabinet.change("m", (), bushy(200))
        self.check_kept(cabinet, {"n": block("a", bushy(198), blank(1)), "m": bushy(200)})

    def test_a_depth_of_just_30_and_31(self):
        forms = {"n": chain(29), "m": A}
        cabinet = filled_cabinet(forms)
        bottom = places_of(chain(29))[-1]
        self.refused(cabinet, forms, TooLong, "n", bottom, chain(3))
        self.refused(cabinet, forms, TooLong, "n", (), chain(31))
        cabinet.change("n", bottom, chain(2))
        forms["n"] = chain(30)
        self.assertEqual(depth_of(forms["n"]), 30)
        self.check_kept(cabinet, forms)
        self.refused(cabinet, forms, TooLong, "n", bottom + (0,), block("b", B))
        cabinet.change("m", (), hung(30, blank(1)))
        self.check_kept(cabinet, {"n": chain(30), "m": hung(30, blank(1))})

    def test_their_order(self):
        forms = {"n": block("a", A, B), "m": A}
        cabinet = filled_cabinet(forms)
        self.refused(cabinet, forms, NoForm, "k", (7,), bushy(201))
        self.refused(cabinet, forms, NoForm, "k", (), bushy(201))
        self.refused(cabinet, forms, NoForm, "K", (7,), A)
        self.refused(cabinet, forms, NoPlace, "n", (7,), bushy(201))
        self.refused(cabinet, forms, NoPlace, "n", (-1,), chain(31))
        self.refused(cabinet, forms, TooLong, "n", (1,), bushy(201))


class ManySteps(Checked):
    """Puts, takes and changes in any order, each followed by looking at all."""

    def step(self, chance, cabinet, forms, names):
        name = chance.choice(names)
        form = random_form(chance, 4, 3, "abc")
        if name not in forms:
            cabinet.put(name, form)
            forms[name] = form
        elif chance.random() < 0.5:
            cabinet.take(name)
            forms.pop(name)
        else:
            place = chance.choice(places_of(forms[name]))
            part = random_form(chance, 2, 3, "abc")
            cabinet.change(name, place, part)
            forms[name] = put_at(forms[name], place, part)

    def test_many_steps(self):
        for seed in range(6):
            chance = random.Random(seed)
            names = ["n" + str(k) for k in range([2, 3, 6, 12, 25, 40][seed])]
            cabinet = Cabinet()
            forms = {}
            for _ in range(70):
                self.step(chance, cabinet, forms, names)
                self.check_kept(cabinet, forms)
                self.check_questions(cabinet, forms, random_form(chance, 4, 3, "abc"))

    def test_whatever_the_order_the_answers_are_the_same(self):
        chance = random.Random(7)
        forms = {"n" + str(k): random_form(chance, 4, 2, "ab") for k in range(30)}
        asked = [random_form(chance, 4, 2, "ab") for _ in range(30)]
        cabinets = []
        for _ in range(4):
            names = list(forms)
            chance.shuffle(names)
            cabinet = filled_cabinet({name: forms[name] for name in names})
            for name in names[::3]:
                cabinet.take(name)
                cabinet.put(name, forms[name])
            self.check_kept(cabinet, forms)
            cabinets.append(cabinet)
        for form in asked:
            self.assertEqual(len({tuple(cabinet.below(form)[0]) for cabinet in cabinets}), 1)
            self.assertEqual(len({tuple(cabinet.above(form)[0]) for cabinet in cabinets}), 1)
            self.assertEqual(len({tuple(cabinet.meeting(form)[0]) for cabinet in cabinets}), 1)


def spoiled(thing):
    """Change every list within what was told."""
    if isinstance(thing, (list, tuple)):
        for inner in thing:
            spoiled(inner)
    if isinstance(thing, list):
        thing.reverse()
        thing.append("spoiled")


class Own(Checked):
    def all_told(self, cabinet):
        forms = [read(text) for text in ASKED]
        told = [cabinet.names(), cabinet.boughs()]
        for form in forms:
            told += [cabinet.below(form), cabinet.above(form), cabinet.meeting(form)]
        return told

    def test_what_is_told_stays_as_it_was(self):
        cabinet = filled_cabinet(letters())
        told = self.all_told(cabinet)
        kept = copy.deepcopy(told)
        self.all_told(cabinet)
        for name in ["n1", "b2", "any"]:
            cabinet.take(name)
        cabinet.put("new", B)
        cabinet.change("n2", (0,), C)
        self.all_told(cabinet)
        for name in cabinet.names():
            cabinet.take(name)
        self.assertEqual(told, kept)

    def test_changing_what_is_told_changes_nothing_else(self):
        cabinet = filled_cabinet(letters())
        told = self.all_told(cabinet)
        kept = copy.deepcopy(told)
        later = self.all_told(cabinet)
        spoiled(later)
        self.assertNotEqual(later, kept)
        self.assertEqual(told, kept)
        self.assertEqual(self.all_told(cabinet), kept)
        self.check_kept(cabinet, letters())

    def test_no_list_is_told_twice(self):
        seen = {}

        def look(thing):
            if isinstance(thing, list):
                self.assertNotIn(id(thing), seen)
                seen[id(thing)] = thing
            if isinstance(thing, (list, tuple)):
                for inner in thing:
                    look(inner)

        cabinet = filled_cabinet(letters())
        look(self.all_told(cabinet) + self.all_told(cabinet))
        self.assertGreater(len(seen), 100)

    def test_two_cabinets_keep_apart(self):
        one, other = Cabinet(), Cabinet()
        one.put("n", A)
        self.check_kept(other, {})
        other.put("n", B)
        other.put("m", C)
        self.check_kept(one, {"n": A})
        one.take("n")
        self.check_kept(other, {"n": B, "m": C})
        one.put("m", block("a", A))
        one.change("m", (0,), blank(1))
        self.check_kept(other, {"n": B, "m": C})
        self.check_kept(one, {"m": block("a", blank(1))})

    def test_asking_changes_nothing(self):
        cabinet = filled_cabinet(letters())
        boughs = cabinet.boughs()
        self.all_told(cabinet)
        self.assertEqual(cabinet.boughs(), boughs)
        self.check_kept(cabinet, letters())


if __name__ == "__main__":
    unittest.main()
