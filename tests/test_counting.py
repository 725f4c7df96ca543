"""Point 15: how often no writing lasts."""

import itertools
import unittest

from notchledger.askings import any_number
from notchledger.counting import counted, spots_between
from notchledger.errors import NoWriting
from notchledger.lasting import how_long
from notchledger.made import copies, crossed, twice, weighed
from notchledger.writings import made_writing
from plain import full, mixed, plain_lasts


def barred(n, k, turns):
    return turns > n or k ** turns > (turns + 1) ** n


class Counted(unittest.TestCase):
    def test_all_of_them(self):
        for n in range(1, 9):
            for k in range(2, 101):
                for turns in range(13):
                    self.assertIs(counted(n, k, turns), barred(n, k, turns), (n, k, turns))

    def test_just_at_the_bars(self):
        self.assertIs(counted(1, 2, 1), False)
        self.assertIs(counted(1, 3, 1), True)
        self.assertIs(counted(3, 8, 1), False)
        self.assertIs(counted(3, 9, 1), True)
        self.assertIs(counted(4, 9, 2), False)
        self.assertIs(counted(4, 10, 2), True)
        # Three turns of two numbers would be few enough, but not on two spots.
        self.assertIs(counted(2, 2, 2), False)
        self.assertIs(counted(2, 2, 3), True)

    def test_no_turns_are_never_barred(self):
        for n in range(1, 9):
            for k in (2, 50, 100):
                self.assertIs(counted(n, k, 0), False)

    def test_what_is_barred_no_writing_lasts(self):
        for table in itertools.product((None, 0, 1), repeat=4):
            turns = how_long((2, 2, table), any_number(2), 0)[0]
            self.assertIs(counted(2, 2, turns), False)
        made = [weighed([1] * 8, 2), copies(3, 4), copies(5, 2), twice(8), crossed(list(range(1, 8)), 3)]
        for writing in made + [full(n, k, k) for n in (3, 5, 8) for k in (2, 3, 6)] + [mixed(4, 2, 1)]:
            turns = how_long(writing, any_number(writing[1]), 0)[0]
            self.assertIs(counted(writing[0], writing[1], turns), False)

    def test_somewhat_beyond_is_no_error(self):
        for n, k, turns in ((0, 2, 1), (9, 2, 1), (20, 2, 13), (3, 1, 2), (3, 101, 2), (3, 3, -1), (0, 2, 0)):
            self.assertIs(counted(n, k, turns), turns > 0 and barred(n, k, turns))


class SpotsBetween(unittest.TestCase):
    def is_refused(self, k, turns):
        return (k - 1) * turns > 8 and not (turns <= 2 and 4 <= k <= 9)

    def test_all_of_them(self):
        for k in range(2, 101):
            for turns in range(1, 13):
                if self.is_refused(k, turns):
                    with self.assertRaises(NoWriting) as caught:
                        spots_between(k, turns)
                    self.assertEqual(caught.exception.args, ())
                else:
                    self.granted(k, turns)

    def granted(self, k, turns):
        told = spots_between(k, turns)
        self.assertIs(type(told), tuple)
        low, writing = told
        self.assertEqual(made_writing(*writing), writing)
        self.assertIs(type(low), int)
        self.assertFalse(barred(low, k, turns))
        for n in range(1, low):
            self.assertTrue(barred(n, k, turns))
        self.assertEqual(writing[1], k)
        self.assertGreaterEqual(writing[0], low)
        self.assertTrue(plain_lasts(writing, any_number(k), 0, turns))
        self.assertEqual(spots_between(k, turns), told)

    def test_where_it_is_refused_and_where_not(self):
        self.assertEqual(
            [k for k in range(2, 101) if not self.is_refused(k, 1)], [2, 3, 4, 5, 6, 7, 8, 9],
        )
        for k in range(4, 10):
            for turns in (1, 2):
                self.granted(k, turns)
        for k, turns in ((10, 1), (10, 2), (100, 1), (4, 3), (5, 3), (9, 3), (3, 5), (2, 9), (2, 12), (100, 12)):
            with self.assertRaises(NoWriting):
                spots_between(k, turns)
        for k, turns in ((2, 8), (3, 4), (2, 1), (3, 1), (3, 3)):
            self.granted(k, turns)

    def test_low_written_out(self):
        self.assertEqual([spots_between(k, 1)[0] for k in range(2, 10)], [1, 2, 2, 3, 3, 3, 3, 4])
        self.assertEqual([spots_between(k, 2)[0] for k in range(2, 10)], [2, 2, 3, 3, 4, 4, 4, 4])
        self.assertEqual([spots_between(2, turns)[0] for turns in range(1, 9)], [1, 2, 3, 4, 5, 6, 7, 8])

    def test_somewhat_beyond_is_no_error_but_the_refusal(self):
        low, writing = spots_between(3, 0)
        self.assertEqual((low, writing[1]), (1, 3))
        self.assertEqual(spots_between(50, 0)[1][1], 50)
        self.assertEqual(spots_between(3, -1)[0], 1)
        with self.assertRaises(NoWriting):
            spots_between(101, 1)
        with self.assertRaises(NoWriting):
            spots_between(2, 13)


if __name__ == "__main__":
    unittest.main()
