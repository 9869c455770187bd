"""Point [11]: each refusal is a class of its own."""

import unittest

from ringbook import errors
from tests.helpers import REFUSALS

NAMES = ["NoNet", "NoWords", "NotRead", "NoPlace", "NoTree", "NoRing", "NoNumber"]


class ErrorsTest(unittest.TestCase):
    def test_names(self):
        self.assertEqual([one.__name__ for one in REFUSALS], NAMES)

    def test_book_error_is_a_value_error(self):
        self.assertEqual(errors.BookError.__bases__, (ValueError,))

    def test_each_stands_straight_under_book_error(self):
        for one in REFUSALS:
            with self.subTest(one.__name__):
                self.assertEqual(one.__bases__, (errors.BookError,))

    def test_none_stands_under_another(self):
        for one in REFUSALS:
            for other in REFUSALS:
                with self.subTest(f"{one.__name__}, {other.__name__}"):
                    self.assertEqual(issubclass(one, other), one is other)

    def test_raised_and_taken(self):
        for one in REFUSALS:
            with self.subTest(one.__name__):
                with self.assertRaises(errors.BookError):
                    raise one("words")


if __name__ == "__main__":
    unittest.main()
