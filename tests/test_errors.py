import unittest

from shelfway import errors

NAMES = ("NoRow", "NoPlace", "NotFull", "NoCode", "NoRank", "NoAmount", "NoNote")


class ErrorClasses(unittest.TestCase):
    def test_shelf_error_stands_straight_under_value_error(self):
        self.assertEqual(errors.ShelfError.__bases__, (ValueError,))

    def test_each_refusal_stands_straight_under_shelf_error(self):
        for name in NAMES:
            with self.subTest(name=name):
                self.assertEqual(getattr(errors, name).__bases__, (errors.ShelfError,))

    def test_refusals_are_classes_of_their_own(self):
        self.assertEqual(len({getattr(errors, name) for name in NAMES}), len(NAMES))
        for name in NAMES:
            self.assertEqual(getattr(errors, name).__name__, name)

    def test_a_refusal_can_be_raised_with_words(self):
        for name in NAMES:
            with self.assertRaises(errors.ShelfError):
                raise getattr(errors, name)("words")
