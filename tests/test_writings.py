"""Points 5 and 6: readings, the numbers read, and the ways up."""

import unittest

from notchledger.cuts import holds
from notchledger.writings import least_up, made_writing, nearest, numbers_read, reading, ways_up
from plain import mixed, plain_ways, spots

# Three spots: some cuts read nothing, 3 is read by none.
GAPS = made_writing(3, 4, (None, 1, 1, 0, 2, None, 0, 1))
EMPTY = made_writing(3, 4, (None,) * 8)
MIXED = [GAPS, EMPTY] + [mixed(n, k, n * 31 + k) for n in range(1, 6) for k in (2, 3, 7)]
LARGE = [mixed(8, k, k) for k in (2, 5, 100)]


def plain_least(writing, cuts, number):
    ways = plain_ways(writing, cuts, number)
    return [up for up in ways if not any(spots(way) < spots(up) for way in ways)]


def plain_nearest(writing, cuts, number):
    ranked = sorted((len(spots(up) - spots(cuts)), up) for up in plain_ways(writing, cuts, number))
    return ranked[0][1] if ranked else None


class Reading(unittest.TestCase):
    def test_numbers_and_nothing(self):
        told = [reading(GAPS, cuts) for cuts in range(8)]
        self.assertEqual(told, [None, 1, 1, 0, 2, None, 0, 1])

    def test_nought_is_a_number_and_not_nothing(self):
        self.assertIsNot(reading(GAPS, 3), None)
        self.assertEqual(repr(reading(GAPS, 3)), "0")

    def test_all_read_nothing(self):
        for cuts in range(8):
            self.assertIsNone(reading(EMPTY, cuts))

    def test_every_cuts_of_every_writing(self):
        for writing in MIXED + LARGE:
            self.assertEqual(tuple(reading(writing, cuts) for cuts in range(2 ** writing[0])), writing[2])

    def test_cuts_somewhat_beyond_are_no_error(self):
        self.assertIsNone(reading(GAPS, 8))
        self.assertIsNone(reading(GAPS, -1))


class NumbersRead(unittest.TestCase):
    def test_some_read_nothing(self):
        self.assertEqual(numbers_read(GAPS), [0, 1, 2])

    def test_all_read_nothing(self):
        self.assertEqual(numbers_read(EMPTY), [])

    def test_one_number_only(self):
        self.assertEqual(numbers_read(made_writing(1, 100, (99, None))), [99])
        self.assertEqual(numbers_read(made_writing(1, 2, (0, 0))), [0])

    def test_rising_whatever_the_order_of_the_cuts(self):
        self.assertEqual(numbers_read(made_writing(2, 9, (8, 3, 5, 0))), [0, 3, 5, 8])

    def test_every_writing(self):
        for writing in MIXED + LARGE:
            self.assertEqual(numbers_read(writing), sorted(set(writing[2]) - {None}))

    def test_each_list_is_a_new_one(self):
        told = numbers_read(GAPS)
        told.clear()
        self.assertEqual(numbers_read(GAPS), [0, 1, 2])


class WaysUp(unittest.TestCase):
    def test_from_no_cuts(self):
        self.assertEqual(ways_up(GAPS, 0, 1), [1, 2, 7])
        self.assertEqual(ways_up(GAPS, 0, 0), [3, 6])
        self.assertEqual(ways_up(GAPS, 0, 2), [4])

    def test_from_some(self):
        self.assertEqual(ways_up(GAPS, 4, 1), [7])
        self.assertEqual(ways_up(GAPS, 2, 0), [3, 6])
        self.assertEqual(ways_up(GAPS, 5, 1), [7])

    def test_from_all(self):
        self.assertEqual(ways_up(GAPS, 7, 1), [7])
        self.assertEqual(ways_up(GAPS, 7, 0), [])

    def test_they_themselves_too(self):
        self.assertEqual(ways_up(GAPS, 2, 1), [2, 7])
        self.assertEqual(ways_up(GAPS, 3, 0), [3])

    def test_no_way_up(self):
        self.assertEqual(ways_up(GAPS, 3, 2), [])
        self.assertEqual(ways_up(GAPS, 0, 3), [])
        self.assertEqual(ways_up(EMPTY, 0, 0), [])

    def test_a_new_list_each_time(self):
        told = ways_up(GAPS, 0, 1)
        told.append(5)
        told[0] = 6
        self.assertEqual(ways_up(GAPS, 0, 1), [1, 2, 7])


class LeastUp(unittest.TestCase):
    def test_from_no_cuts(self):
        self.assertEqual(least_up(GAPS, 0, 1), [1, 2])
        self.assertEqual(least_up(GAPS, 0, 0), [3, 6])

    def test_from_some(self):
        self.assertEqual(least_up(GAPS, 4, 1), [7])
        self.assertEqual(least_up(GAPS, 2, 0), [3, 6])

    def test_from_all(self):
        self.assertEqual(least_up(GAPS, 7, 1), [7])
        self.assertEqual(least_up(GAPS, 7, 2), [])

    def test_they_themselves_alone_if_they_read_it(self):
        self.assertEqual(least_up(GAPS, 2, 1), [2])

    def test_no_way_up(self):
        self.assertEqual(least_up(GAPS, 3, 2), [])
        self.assertEqual(least_up(EMPTY, 0, 1), [])

    def test_least_is_by_holding_and_not_by_size(self):
        writing = made_writing(3, 2, (None, None, None, 1, 1, 1, None, 1))
        self.assertEqual(ways_up(writing, 0, 1), [3, 4, 5, 7])
        self.assertEqual(least_up(writing, 0, 1), [3, 4])

    def test_a_new_list_each_time(self):
        told = least_up(GAPS, 0, 1)
        told.pop()
        self.assertEqual(least_up(GAPS, 0, 1), [1, 2])


class Nearest(unittest.TestCase):
    def test_from_no_cuts(self):
        self.assertEqual(nearest(GAPS, 0, 2), 4)
        self.assertEqual(nearest(EMPTY, 0, 2), None)

    def test_of_several_equally_near_the_least(self):
        self.assertEqual(nearest(GAPS, 0, 1), 1)
        self.assertEqual(nearest(GAPS, 0, 0), 3)
        self.assertEqual(nearest(GAPS, 2, 0), 3)

    def test_fewest_further_cuts_ahead_of_the_least(self):
        writing = made_writing(3, 2, (None, None, None, 1, 1, None, 1, 1))
        self.assertEqual(nearest(writing, 0, 1), 4)

    def test_further_cuts_count_from_the_cuts_handed_in(self):
        writing = made_writing(4, 2, (None,) * 7 + (1,) + (None,) * 4 + (1,) + (None,) * 3)
        self.assertEqual(nearest(writing, 0, 1), 12)
        self.assertEqual(nearest(writing, 3, 1), 7)

    def test_they_themselves_if_they_read_it(self):
        self.assertEqual(nearest(GAPS, 2, 1), 2)
        self.assertEqual(nearest(made_writing(2, 2, (0, 0, 0, 0)), 0, 0), 0)

    def test_from_all(self):
        self.assertEqual(nearest(GAPS, 7, 1), 7)
        self.assertIsNone(nearest(GAPS, 7, 0))

    def test_no_way_up(self):
        self.assertIsNone(nearest(GAPS, 3, 2))
        self.assertIsNone(nearest(GAPS, 0, 3))


class AllThree(unittest.TestCase):
    def check(self, writing, cuts):
        for number in range(writing[1]):
            told = (ways_up(writing, cuts, number), least_up(writing, cuts, number), nearest(writing, cuts, number))
            plain = (
                plain_ways(writing, cuts, number),
                plain_least(writing, cuts, number),
                plain_nearest(writing, cuts, number),
            )
            self.assertEqual(told, plain, (writing, cuts, number))

    def test_from_every_cuts_of_small_writings(self):
        for writing in MIXED:
            for cuts in range(2 ** writing[0]):
                self.check(writing, cuts)

    def test_from_some_cuts_of_eight_spots(self):
        for writing in LARGE:
            for cuts in (0, 1, 128, 37, 170, 254, 255):
                self.check(writing, cuts)

    def test_what_was_written_is_read(self):
        for writing in MIXED:
            for number in numbers_read(writing):
                cuts = nearest(writing, 0, number)
                self.assertEqual(reading(writing, cuts), number)
                for up in ways_up(writing, cuts, number):
                    self.assertEqual(reading(writing, up), number)
                    self.assertTrue(holds(up, cuts))

    def test_the_same_question_has_the_same_answer(self):
        for ask in (ways_up, least_up, nearest):
            self.assertEqual(ask(GAPS, 0, 1), ask(GAPS, 0, 1))

    def test_the_writing_stays_as_it_is(self):
        ways_up(GAPS, 0, 1).clear()
        least_up(GAPS, 0, 1).clear()
        numbers_read(GAPS).clear()
        self.assertEqual(GAPS, (3, 4, (None, 1, 1, 0, 2, None, 0, 1)))

    def test_cuts_somewhat_beyond_have_no_way_up(self):
        self.assertEqual(ways_up(GAPS, 8, 1), [])
        self.assertEqual(least_up(GAPS, 9, 1), [])
        self.assertIsNone(nearest(GAPS, 8, 1))


if __name__ == "__main__":
    unittest.main()
