"""The interface's paragraph on errors."""

import unittest

from notchledger import errors
from notchledger.writings import made_writing

NAMES = (
    "NoWriting NoAskings TooMany Unsure NoName Taken Unknown NoNumber Unlike Lent Same "
    "Nothing Short Over NotLent Spent NoHalf NoSpot NoDeed NoText"
).split()


class Errors(unittest.TestCase):
    def test_notch_error_stands_under_value_error(self):
        self.assertEqual(errors.NotchError.__bases__, (ValueError,))

    def test_all_others_stand_straight_under_notch_error(self):
        for name in NAMES:
            with self.subTest(name):
                self.assertEqual(getattr(errors, name).__bases__, (errors.NotchError,))
                self.assertEqual(getattr(errors, name).__name__, name)

    def test_each_is_made_without_anything(self):
        for name in NAMES + ["NotchError"]:
            with self.subTest(name):
                self.assertEqual(getattr(errors, name)().args, ())

    def test_each_is_taken_as_itself_and_those_above_alone(self):
        for name in NAMES:
            for other in NAMES:
                with self.subTest(name=name, other=other):
                    taken = isinstance(getattr(errors, name)(), getattr(errors, other))
                    self.assertEqual(taken, name == other)


class RaisedNoWriting(unittest.TestCase):
    def refusal(self, taken_as):
        try:
            made_writing(0, 2, (0,))
        except taken_as as error:
            return error
        self.fail("not refused")

    def test_it_is_taken_as_each_above_it(self):
        for taken_as in (errors.NoWriting, errors.NotchError, ValueError):
            with self.subTest(taken_as):
                self.assertEqual(type(self.refusal(taken_as)), errors.NoWriting)

    def test_it_is_taken_by_none_of_the_others(self):
        for name in NAMES[1:]:
            with self.subTest(name):
                with self.assertRaises(errors.NoWriting):
                    self.refusal(getattr(errors, name))


if __name__ == "__main__":
    unittest.main()
