"""Point 14: how long joined and made writings last, by any_number from no cuts on."""

import itertools
import unittest

from notchledger.askings import any_number
from notchledger.joined import beside, blank, fewer, later, padded, renamed
from notchledger.lasting import how_long
from notchledger.made import copies, crossed, twice
from plain import full, mixed, plain_lasts, sums


def turns_of(writing):
    return how_long(writing, any_number(writing[1]), 0)[0]


SMALL = (
    [full(n, k, seed) for n in (1, 2, 3) for k in (2, 3) for seed in (1, 2, 3)]
    + [mixed(n, k, seed) for n in (2, 3) for k in (2, 3) for seed in (4, 5)]
    + [sums([1, 1, 1], 2), sums([1, 1, 1, 1], 2), sums([1, 2, 1, 2], 3), (2, 2, (None, 0, 1, None)), (1, 2, (0, 0))]
)


class Joined(unittest.TestCase):
    def test_the_small_ones_last_unlike_turns(self):
        self.assertEqual({turns_of(writing) for writing in SMALL}, {0, 1, 2, 3, 4})

    def test_beside_lasts_as_the_one_that_lasts_less(self):
        for one, other in itertools.product(SMALL, repeat=2):
            self.assertEqual(turns_of(beside(one, other)), min(turns_of(one), turns_of(other)), (one, other))

    def test_later_lasts_at_least_both(self):
        for one, other in itertools.product(SMALL, repeat=2):
            if one[1] == other[1]:
                self.assertGreaterEqual(turns_of(later(one, other)), turns_of(one) + turns_of(blank(other)))

    def test_fewer_lasts_at_least_as_long(self):
        for writing in SMALL + [sums([1, 2, 3, 1, 2, 3], 4), full(6, 5, 1)]:
            for k in range(2, writing[1] + 1):
                self.assertGreaterEqual(turns_of(fewer(writing, k)), turns_of(writing))

    def test_padded_and_renamed_last_just_as_long(self):
        for writing in SMALL:
            n, k = writing[0], writing[1]
            for more in (0, 1, 8 - n):
                self.assertEqual(turns_of(padded(writing, more)), turns_of(writing))
            for spots in itertools.permutations(range(n)):
                other = renamed(writing, list(spots), list(range(1, k)) + [0])
                self.assertEqual(turns_of(other), turns_of(writing))


class Made(unittest.TestCase):
    def test_twice_lasts_two_turns(self):
        for n in range(3, 9):
            self.assertGreaterEqual(turns_of(twice(n)), 2)
        self.assertEqual(turns_of(twice(3)), 2)

    def test_copies_last_their_turns(self):
        for k in range(2, 10):
            for turns in range(1, 8 // (k - 1) + 1):
                writing = copies(k, turns)
                self.assertGreaterEqual(turns_of(writing), turns)
                self.assertTrue(plain_lasts(writing, any_number(k), 0, turns))

    def test_crossed_with_each_label_once_lasts_its_size(self):
        for size in (1, 2, 3):
            self.assertGreaterEqual(turns_of(crossed(list(range(1, 2 ** size)), size)), size)


if __name__ == "__main__":
    unittest.main()
