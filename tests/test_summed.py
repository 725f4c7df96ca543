"""Of point 22: writings that mend one tear, by the sum of the cut spots."""

import unittest

from notchledger.summed import summed
from notchledger.tearing import mended, mending, tear_room
from notchledger.writings import made_writing, numbers_read
from plain import TimedCase, spots


def plain_summed(n, rest):
    """Point 22, word for word."""
    table = []
    many = 0
    for cuts in range(2 ** n):
        if sum(spot + 1 for spot in spots(cuts)) % (n + 1) == rest:
            table.append(many)
            many += 1
        else:
            table.append(None)
    return (n, many, tuple(table))


class Summed(unittest.TestCase):
    def test_written_out(self):
        self.assertEqual(summed(3, 0), (3, 2, (0, None, None, None, None, 1, None, None)))
        self.assertEqual(summed(3, 1), (3, 2, (None, 0, None, None, None, None, 1, None)))
        self.assertEqual(summed(3, 3), (3, 2, (None, None, None, 0, 1, None, None, None)))

    def test_each_number_of_spots_and_each_rest(self):
        for n in range(3, 9):
            for rest in range(n + 1):
                told = summed(n, rest)
                self.assertEqual(repr(told), repr(plain_summed(n, rest)))
                self.assertEqual(made_writing(*told), told)
                self.assertEqual(numbers_read(told), list(range(told[1])))
                self.assertEqual(repr(summed(n, rest)), repr(told))

    def test_it_mends_one_tear(self):
        for n in range(3, 9):
            for rest in range(n + 1):
                writing = summed(n, rest)
                self.assertEqual(mending(writing, 1), ("mends",))
                self.assertLessEqual(tear_room(writing, 1), 2 ** n)

    def test_each_number_is_told_again_whichever_spot_tore(self):
        for n in range(3, 9):
            for rest in range(n + 1):
                writing = summed(n, rest)
                for cuts, number in enumerate(writing[2]):
                    if number is not None:
                        for spot in range(n):
                            self.assertEqual(mended(writing, 1, cuts | 2 ** spot), number)

    def test_how_many_numbers_rest_0_has_at_least(self):
        for n in range(3, 9):
            self.assertGreaterEqual(summed(n, 0)[1] * (n + 1), 2 ** n)

    def test_all_cuts_read_by_one_rest(self):
        for n in range(3, 9):
            tables = [summed(n, rest)[2] for rest in range(n + 1)]
            for readings in zip(*tables):
                self.assertEqual(sum(number is not None for number in readings), 1)

    def test_somewhat_beyond_is_no_error(self):
        for n in (-1, 0, 1, 2, 9, 10):
            for rest in (-1, 0, 1, n, n + 1):
                told = summed(n, rest)
                self.assertEqual(told[0], n)
                self.assertEqual(len(told[2]), 2 ** max(n, 0))
        self.assertEqual(summed(2, 0), (2, 2, (0, None, None, 1)))
        self.assertEqual(summed(3, 4), (3, 0, (None,) * 8))


class EightSpots(TimedCase):
    def test_in_time(self):
        for rest in range(9):
            self.timed(summed, 8, rest)


if __name__ == "__main__":
    unittest.main()
