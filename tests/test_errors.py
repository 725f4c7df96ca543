"""The interface's paragraph on errors."""

import itertools
import unittest

from notchledger import errors
from notchledger.askings import made_askings
from notchledger.chains import fewest_sealed, sealed_of
from notchledger.counting import spots_between
from notchledger.joined import beside, fewer, later, padded, renamed
from notchledger.ledger import Ledger
from notchledger.made import copies, crossed, twice, unary, weighed
from notchledger.tearing import mended
from notchledger.texts import read_writing
from notchledger.writings import made_writing

NAMES = (
    "NoWriting NoAskings TooMany Unsure NoName Taken Unknown NoNumber Unlike Lent Same "
    "Nothing Short Over NotLent Spent NoHalf NoSpot NoDeed NoText"
).split()


class Errors(unittest.TestCase):
    def test_notch_error_stands_under_value_error(self):
        self.assertEqual(errors.NotchError.__bases__, (ValueError,))

    def test_all_others_stand_straight_under_notch_error(self):
        for name in NAMES:
            with self.subTest(name):
                self.assertEqual(getattr(errors, name).__bases__, (errors.NotchError,))
                self.assertEqual(getattr(errors, name).__name__, name)

    def test_each_is_made_without_anything(self):
        for name in NAMES + ["NotchError"]:
            with self.subTest(name):
                self.assertEqual(getattr(errors, name)().args, ())

    def test_each_tells_its_name_as_the_desk_does(self):
        for name in NAMES:
            self.assertEqual(str(getattr(errors, name)()), name)

    def test_each_is_taken_as_itself_and_those_above_alone(self):
        for name in NAMES:
            for other in NAMES:
                with self.subTest(name=name, other=other):
                    taken = isinstance(getattr(errors, name)(), getattr(errors, other))
                    self.assertEqual(taken, name == other)


SWITCH = made_writing(1, 2, (0, 1))
EIGHT = made_writing(8, 2, (0, 1) * 128)
GAPS = made_writing(2, 4, (None, 2, 0, 3))


def asked(writing, deeds, *call):
    """The call of a ledger behind these deeds, each written as words with a blank between."""
    ledger = Ledger(writing)
    for words in deeds + [call]:
        deed, *given = words.split(" ") if isinstance(words, str) else words
        given = [int(word) if isinstance(word, str) and word.isdigit() else word for word in given]
        getattr(ledger, deed)(*given)


# For each refusal calls that raise it.
RAISED = {
    "NoWriting": [
        (made_writing, 0, 2, (0,)), (weighed, [], 2), (crossed, [], 1), (unary, 9), (twice, 2), (copies, 2, 9),
        (beside, EIGHT, SWITCH), (later, EIGHT, SWITCH), (fewer, SWITCH, 1), (padded, SWITCH, 8),
        (renamed, SWITCH, [], []), (spots_between, 10, 1),
    ],
    "NoAskings": [(made_askings, 2, ()), (made_askings, 1, ((), ())), (made_askings, 2, ((0,), (), ()))],
    "TooMany": [
        (sealed_of, 1, 2), (sealed_of, 8, 71), (fewest_sealed, 71),
        (asked, SWITCH, ["begin " + letter for letter in "abcdefghijklmnopqrst"], "begin", "u"),
        (asked, SWITCH, ["begin a"] + ["settle a"] * 199, "settle", "b"),
    ],
    "Unsure": [(mended, SWITCH, 1, 1), (asked, SWITCH, ["begin a", "write a 1"], "mend", "a", 1)],
    "NoName": [(asked, SWITCH, [], "begin", "A"), (asked, SWITCH, [], "begin", None)],
    "Taken": [(asked, SWITCH, ["begin a"], "begin", "a")],
    "Unknown": [(asked, SWITCH, [], "number", "a"), (asked, SWITCH, [], "pay", "a", "a", 1)],
    "NoNumber": [
        (asked, SWITCH, ["begin a"], "write", "a", 2), (asked, SWITCH, ["begin a", "begin b"], "pay", "a", "b", 0),
        (asked, GAPS, ["begin a", "lend a"], "write_twin", "a", 1),
    ],
    "Unlike": [(asked, SWITCH, ["begin a", ("cut_alone", "a", "stock", [0])], "write", "a", 1)],
    "Lent": [
        (asked, SWITCH, ["begin a", "lend a"], "lend", "a"), (asked, SWITCH, ["begin a", "lend a"], "mend", "a", 0),
    ],
    "Same": [(asked, SWITCH, ["begin a"], "pay", "a", "a", 1)],
    "Nothing": [
        (asked, GAPS, ["begin a", "begin b"], "pay", "a", "b", 1), (asked, GAPS, ["begin a"], "mend", "a", 0),
        (asked, GAPS, ["begin a", "write a 2"], "back"),
    ],
    "Short": [(asked, SWITCH, ["begin a", "begin b"], "pay", "a", "b", 1)],
    "Over": [(asked, SWITCH, ["begin a", "begin b", "write a 1", "write b 1"], "pay", "a", "b", 1)],
    "NotLent": [(asked, SWITCH, ["begin a"], "lay", "a"), (asked, SWITCH, ["begin a"], "write_twin", "a", 1)],
    "Spent": [(asked, SWITCH, ["begin a", "write a 1", "lend a"], "write_twin", "a", 0)],
    "NoHalf": [(asked, SWITCH, ["begin a"], "cut_alone", "a", "both", [0])],
    "NoSpot": [(asked, SWITCH, ["begin a"], "cut_alone", "a", "stock", [1])],
    "NoDeed": [(asked, SWITCH, ["begin a"], "back")],
    "NoText": [(read_writing, ""), (read_writing, None), (read_writing, "strip 1 2\n0 2\n")],
}


class Raised(unittest.TestCase):
    def refusal(self, call, taken_as):
        try:
            call[0](*call[1:])
        except taken_as as error:
            return error
        self.fail("not refused")

    def test_each_is_raised_somewhere(self):
        self.assertEqual(sorted(RAISED), sorted(NAMES))

    def test_each_is_taken_as_those_above_it(self):
        for name, calls in RAISED.items():
            own = getattr(errors, name)
            for call, taken_as in itertools.product(calls, (own, errors.NotchError, ValueError)):
                with self.subTest(call=call, taken_as=taken_as):
                    self.assertEqual(type(self.refusal(call, taken_as)), own)

    def test_each_is_taken_by_none_of_the_others(self):
        for name, calls in RAISED.items():
            for call, other in itertools.product(calls, NAMES):
                with self.subTest(call=call, other=other):
                    if other != name:
                        with self.assertRaises(getattr(errors, name)):
                            self.refusal(call, getattr(errors, other))


if __name__ == "__main__":
    unittest.main()
