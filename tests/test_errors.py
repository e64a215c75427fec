"""The errors: each is there, of its name, straight under the class that the interface says."""

import unittest

from tipwebs import errors

NAMES = ["BadPlaces", "BadTies", "BadRow", "BadCounts", "BadNumber", "NoTip"]


class ErrorsTest(unittest.TestCase):
    def test_tip_error_is_straight_under_value_error(self):
        self.assertEqual(errors.TipError.__bases__, (ValueError,))
        self.assertEqual(errors.TipError.__name__, "TipError")

    def test_each_other_is_straight_under_tip_error(self):
        for name in NAMES:
            with self.subTest(name=name):
                error = getattr(errors, name)
                self.assertEqual(error.__bases__, (errors.TipError,))
                self.assertEqual(error.__name__, name)

    def test_no_two_are_the_same(self):
        self.assertEqual(len({getattr(errors, name) for name in NAMES}), len(NAMES))

    def test_each_can_be_raised_and_caught_as_a_value_error(self):
        for name in ["TipError"] + NAMES:
            with self.subTest(name=name), self.assertRaises(ValueError) as caught:
                raise getattr(errors, name)("why")
            self.assertEqual(str(caught.exception), "why")


if __name__ == "__main__":
    unittest.main()
