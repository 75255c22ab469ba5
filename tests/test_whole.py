"""Points 1 and 3: the whole program together, from texts to the cabinet."""

import itertools
import unittest

from commonform.cabinet import Cabinet
from commonform.fillings import filled, one_behind, plain
from commonform.nearest import by_nearest, nearest, nearest_of
from commonform.order import first_clash, fitting
from commonform.papers import apart, walked
from commonform.trees import blanks_of
from commonform.widest import by_widest, widest
from commonform.writing import read, written

TEXTS = [
    "letter(to(ann),from(office),body(greet(ann),pay(s30)))",
    "letter(to(bob),from(office),body(greet(bob),pay(s45)))",
    "letter(to(ann),from(bob),body(greet(ann),thank))",
    "letter(to(?1),from(office),body(greet(?1),?2))",
    "letter(to(?1),from(?2),body(greet(?1),thank))",
    "letter(?1,?2,?3)",
    "letter(to(?4),from(?4),?9)",
    "letter(to(ann),?1,body(?1,?2))",
    "bill(to(ann),sum(s30))",
    "bill(to(?1),sum(?2))",
    "bill(to(?1),paid(?1))",
    "?5",
]
FORMS = [read(text) for text in TEXTS]


class Whole(unittest.TestCase):
    def test_texts(self):
        for text, form in zip(TEXTS, FORMS):
            self.assertEqual(written(form), text)

    def test_letters_to_their_form_and_back(self):
        form, fillings = nearest_of(FORMS[:2])
        self.assertEqual(written(form), "letter(to(?1),from(office),body(greet(?1),pay(?2)))")
        self.assertEqual([written(filled(form, filling)) for filling in fillings], TEXTS[:2])
        self.assertEqual(written(nearest_of(FORMS[:3])[0]), "letter(to(?1),from(?2),body(greet(?1),?3))")
        self.assertEqual(written(nearest(FORMS[0], FORMS[8])[0]), "?1")

    def test_nearest_fits_every_other_common_form(self):
        for one, other in itertools.product(FORMS, repeat=2):
            form, left, right = nearest(one, other)
            self.assertEqual((filled(form, left), filled(form, right)), (one, other))
            for common in FORMS:
                filling = by_nearest(common, one, other)
                self.assertIs(filling is None, None in (fitting(common, one), fitting(common, other)))
                if filling is not None:
                    self.assertEqual(filled(common, filling), form)
                    self.assertEqual(filled(common, one_behind(filling, left)), one)
                    self.assertEqual(filled(common, one_behind(filling, right)), other)

    def test_widest_or_a_paper(self):
        for one, other in itertools.product(FORMS, repeat=2):
            told = widest(one, other)
            if told[0] == "none":
                likenesses = walked(one, apart(one, other), told[1])
                self.assertEqual(likenesses[0], (one, apart(one, other)))
                self.assertEqual([tree for tree in FORMS if fitting(one, tree) is not None and fitting(other, tree) is not None], [])
                continue
            word, form, left, right = told
            self.assertEqual((filled(one, left), filled(other, right)), (form, form))
            self.assertEqual(read(written(form)), form)
            for tree in FORMS + [form]:
                filling = by_widest(one, other, tree)
                self.assertIs(filling is None, None in (fitting(one, tree), fitting(other, tree)))
                if filling is not None:
                    self.assertEqual(filled(form, filling), tree)

    def test_widest_told_outright(self):
        self.assertEqual(written(widest(FORMS[3], FORMS[4])[1]), "letter(to(?1),from(office),body(greet(?1),thank))")
        self.assertEqual(written(widest(FORMS[6], FORMS[3])[1]), "letter(to(office),from(office),body(greet(office),?1))")
        self.assertEqual(widest(FORMS[9], FORMS[10])[0], "none")
        self.assertEqual(widest(FORMS[7], FORMS[3])[0], "none")

    def test_any_order_and_any_grouping(self):
        for one, two, three in itertools.combinations(FORMS, 3):
            together = {written(nearest_of(list(row))[0]) for row in itertools.permutations([one, two, three])}
            together |= {written(nearest(nearest(*row[:2])[0], row[2])[0]) for row in itertools.permutations([one, two, three])}
            self.assertEqual(len(together), 1)
            below = set()
            for first, second, third in itertools.permutations([one, two, three]):
                told = widest(first, second)
                if told[0] == "form":
                    told = widest(told[1], third)
                below.add(written(told[1]) if told[0] == "form" else None)
            self.assertEqual(len(below), 1)

    def test_one_with_the_other_of_the_same_form_is_that_form(self):
        for one, other in itertools.product(FORMS, repeat=2):
            self.assertEqual(widest(one, nearest(one, other)[0])[1], plain(one))
            told = widest(one, other)
            if told[0] == "form":
                self.assertEqual(nearest(one, told[1])[0], plain(one))

    def test_the_cabinet(self):
        cabinet = Cabinet()
        kept = {}
        for number, form in enumerate(FORMS):
            cabinet.put("f" + str(number), form)
            kept["f" + str(number)] = form
        self.assertEqual(cabinet.boughs()[1], nearest_of(FORMS)[0])
        for name in ["f5", "f0", "f11"]:
            cabinet.take(name)
            kept.pop(name)
        cabinet.change("f9", (1, 0), read("?1"))
        kept["f9"] = read("bill(to(?1),sum(?1))")
        self.assertEqual(cabinet.boughs()[1], nearest_of(list(kept.values()))[0])
        self.assertEqual(cabinet.names(), sorted(kept))
        barred = 0
        for form in FORMS + [nearest(FORMS[0], FORMS[1])[0], nearest_of(FORMS[8:11])[0]]:
            below, above, meeting = cabinet.below(form), cabinet.above(form), cabinet.meeting(form)
            self.assertEqual(below[0], sorted(name for name in kept if fitting(form, kept[name]) is not None))
            self.assertEqual(above[0], sorted(name for name in kept if fitting(kept[name], form) is not None))
            self.assertEqual(meeting[0], sorted(name for name in kept if widest(form, kept[name])[0] == "form"))
            for row in below[1] + above[1] + meeting[1]:
                if row[0] == "barred":
                    barred += 1
                    common = nearest_of([kept[name] for name in row[1]])[0]
                    if row in above[1]:
                        self.assertEqual(row[2], first_clash(common, form))
                    else:
                        self.assertEqual(walked(form, apart(form, common), row[2])[0], (form, apart(form, common)))
        self.assertGreater(barred, 10)

    def test_a_letter_is_found_by_its_forms_and_filled_again(self):
        cabinet = Cabinet()
        for number, form in enumerate(FORMS[3:7]):
            cabinet.put("f" + str(number), form)
        letter = FORMS[1]
        names, rows = cabinet.above(letter)
        self.assertEqual(names, ["f0", "f2"])
        for name in names:
            form = cabinet.form_of(name)
            filling = fitting(form, letter)
            self.assertEqual(sorted(filling), sorted(blanks_of(form)))
            self.assertEqual(written(filled(form, filling)), TEXTS[1])
            self.assertIsNone(first_clash(form, letter))


if __name__ == "__main__":
    unittest.main()
