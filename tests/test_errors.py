"""Point 2 and the interface: the classes of refusals."""

import unittest

from commonform import errors

NAMES = ("NoPlace", "BadText", "TooLong", "BadPaper", "BadName", "Twice", "NoForm")


class Classes(unittest.TestCase):
    def test_form_error_is_straight_under_value_error(self):
        self.assertEqual(errors.FormError.__bases__, (ValueError,))

    def test_each_class_is_straight_under_form_error(self):
        for name in NAMES:
            with self.subTest(name):
                self.assertEqual(getattr(errors, name).__bases__, (errors.FormError,))

    def test_no_class_is_under_another(self):
        for one in NAMES:
            for other in NAMES:
                if one != other:
                    with self.subTest(one=one, other=other):
                        self.assertFalse(issubclass(getattr(errors, one), getattr(errors, other)))


if __name__ == "__main__":
    unittest.main()
