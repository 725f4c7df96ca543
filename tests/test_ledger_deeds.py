"""Points 26 to 30 against the plain ledger: each two refusals that are due at once, and long rows of deeds."""

import copy
import itertools
import unittest

from notchledger.joined import blank, fewer
from notchledger.made import copies, twice, unary, weighed
from notchledger.summed import summed
from notchledger.writings import made_writing
from plain import full, mixed, steps
from plain_ledger import BothCase, some_deed, told_by, view_of

NAMES = ["ann", "bob", "cid"]
MORE_NAMES = list("defghijklmnopqrst")
# No cuts read nothing, and 1 is no number that is read.
GAPS = made_writing(3, 5, (None, 2, 0, 3, 4, None, 2, 0))
WRITINGS = [
    GAPS, copies(3, 2), twice(3), unary(3), summed(4, 0), blank(copies(2, 3)), fewer(weighed([1, 2, 3], 5), 4),
    weighed([1, 1, 1], 4), mixed(3, 3, 5), mixed(3, 4, 6), mixed(2, 2, 7), full(4, 6, 8),
    made_writing(1, 2, (None, None)),
]
NUMBERS = [-1, 0, 1, 2, 3, 4, 5, 100, True, False, None, "1", [1]]
AMOUNTS = [-1, 0, 1, 2, 3, 4, 99, 100, True, None, "1", (1,)]
HALVES = ["stock", "foil", "both", "Stock", None, 0, ["stock"]]
SPOTS = [[], [0], [1], [0, 1], [1, 1], [9], [-1], [0, 1, 2], list(range(100))]


def every_call():
    """Calls of all deeds, with names that are known and that aren't."""
    names = NAMES + ["eve"]
    for name in names:
        yield from [("begin", name), ("lend", name), ("lay", name), ("settle", name)]
        yield from [("mend", name, tears) for tears in (0, 1, 2, 8)]
        for number in NUMBERS:
            yield from [("write", name, number), ("write_twin", name, number)]
        yield from [("cut_alone", name, half, list(some)) for half in HALVES for some in SPOTS]
    yield from [("begin", name) for name in ("", "Ann", "ann ", "a" * 9, None, True, 1, ["ann"], "new")]
    for one, other in itertools.product(names, names):
        yield from [("pay", one, other, amount) for amount in AMOUNTS]
    yield ("back",)


# For each deed its refusals in the order in which the points tell them.
ORDER = {
    "begin": "TooMany NoName Taken TooMany",
    "write": "TooMany Unknown NoNumber Unlike Lent",
    "pay": "TooMany Unknown Unknown Same NoNumber Unlike Nothing Short Over NoNumber Lent",
    "lend": "TooMany Unknown Unlike Lent",
    "write_twin": "TooMany Unknown NotLent NoNumber Spent",
    "lay": "TooMany Unknown NotLent Unlike",
    "cut_alone": "TooMany Unknown NoHalf NoSpot",
    "settle": "TooMany Unknown Nothing Lent",
    "mend": "TooMany Unknown Unlike Lent Unsure Nothing",
    "back": "TooMany NoDeed Unlike Nothing Lent",
}
# What is never due at once: an unknown name has no strip, an account that begins has no name that is taken,
# a twin is there or not, numbers are behind cuts or none are.
NEVER = {
    ("begin", "NoName", "Taken"), ("write", "Unknown", "Unlike"), ("write", "Unknown", "Lent"),
    ("lend", "Unknown", "Unlike"), ("lend", "Unknown", "Lent"), ("write_twin", "Unknown", "NotLent"),
    ("write_twin", "Unknown", "Spent"), ("write_twin", "NotLent", "Spent"), ("lay", "Unknown", "NotLent"),
    ("lay", "Unknown", "Unlike"), ("settle", "Unknown", "Nothing"), ("settle", "Unknown", "Lent"),
    ("mend", "Unknown", "Unlike"), ("mend", "Unknown", "Lent"), ("mend", "Unknown", "Unsure"),
    ("mend", "Unknown", "Nothing"), ("mend", "Unsure", "Nothing"), ("back", "NoDeed", "Unlike"),
    ("back", "NoDeed", "Nothing"), ("back", "NoDeed", "Lent"), ("back", "Nothing", "Lent"),
}


def every_two(deed):
    return {(deed, *two) for two in itertools.combinations(ORDER[deed].split(), 2)} - NEVER


# Deeds by which some refusals are still due when the 200th deed was granted.
FILLED = [
    (GAPS, [("write", "bob", 2), ("cut_alone", "cid", "stock", [0])]),
    (GAPS, [("begin", name) for name in MORE_NAMES]),
    (unary(3), [("write", "bob", 1), ("write", "bob", 2), ("lend", "bob")]),
]


class EachCall(BothCase):
    """From many states each call: what is told, what it changes, and that what is refused changes nothing."""

    def state(self, writing, seed, many, pairs=None):
        """A state behind some deeds without a pattern, of which so many are asked or 200 granted."""
        self.begin_both(writing, pairs)
        worths = steps(seed)
        for name in NAMES:
            self.both("begin", name)
        for times in range(many):
            if self.ledger.deeds() < 200:
                self.both(*some_deed(writing, NAMES, worths))

    def filled(self, writing, calls, pairs):
        """A state behind these calls, and settles of an account that is alike up to 200 deeds."""
        self.begin_both(writing, pairs)
        for call in [("begin", name) for name in NAMES] + calls:
            self.assertEqual(self.both(*call)[0], "told")
        while self.ledger.deeds() < 200:
            self.both("settle", "ann")

    def try_each_call(self):
        before = repr(view_of(self.ledger))
        for call in every_call():
            kept = self.ledger, self.plain
            if self.plain.is_granted(*call):
                self.ledger, self.plain = copy.deepcopy(kept)
                self.both(*call)
                self.ledger, self.plain = kept
            else:
                self.both(*call)
            self.assertEqual(repr(view_of(self.ledger)), before)

    def test_each_call_from_many_states(self):
        pairs = set()
        for seed in range(4 * len(WRITINGS)):
            self.state(WRITINGS[seed % len(WRITINGS)], seed, 3 + 5 * (seed % 7), pairs)
            self.try_each_call()
        for name in MORE_NAMES:
            self.both("begin", name)
        self.try_each_call()
        for seed in range(9):
            self.state((GAPS, unary(3), mixed(3, 4, 6))[seed % 3], seed, 2000, pairs)
            self.assertEqual(self.ledger.deeds(), 200)
            self.try_each_call()
        for writing, calls in FILLED:
            self.filled(writing, calls, pairs)
            self.try_each_call()
        self.assertEqual({two for deed in ORDER for two in every_two(deed)} - pairs, set())

    def test_behind_200_deeds_each_is_refused_with_too_many(self):
        self.state(GAPS, 3, 2000)
        for call in every_call():
            self.assertEqual(told_by(self.ledger, *call), ("refused", "TooMany"))
        self.assertEqual(self.ledger.deeds(), 200)


if __name__ == "__main__":
    unittest.main()
