"""Point 13: joined writings."""

import itertools
import unittest

from notchledger.joined import beside, blank, fewer, later, padded, renamed
from notchledger.writings import made_writing
from plain import FAR, NO_NUMBERS, WHATEVER, WritingCase, full, mixed, spots, steps

GAPS = made_writing(2, 3, (None, 1, 2, 0))
SMALL = [mixed(n, k, 5 * n + k) for n in (1, 2, 3) for k in (2, 3, 5)] + [full(2, 4, 1), GAPS]


def part(cuts, first, many):
    """The cuts of so many spots from the first on, as if these were a strip."""
    return sum(2 ** (spot - first) for spot in spots(cuts) if first <= spot < first + many)


def plain_beside(one, other):
    n, k = one[0] + other[0], one[1] * other[1]
    table = []
    for cuts in range(2 ** n):
        mine, yours = one[2][part(cuts, 0, one[0])], other[2][part(cuts, one[0], other[0])]
        table.append(None if None in (mine, yours) else mine * other[1] + yours)
    return (n, k, tuple(table))


def plain_later(one, other):
    n = one[0] + other[0]
    table = []
    for cuts in range(2 ** n):
        behind = part(cuts, one[0], other[0])
        table.append(one[2][part(cuts, 0, one[0])] if behind == 0 else other[2][behind])
    return (n, one[1], tuple(table))


def plain_renamed(writing, new_spots, numbers):
    n, k, table = writing
    new = [None] * 2 ** n
    for cuts in range(2 ** n):
        if table[cuts] is not None:
            new[sum(2 ** new_spots[spot] for spot in spots(cuts))] = numbers[table[cuts]]
    return (n, k, tuple(new))


def shuffled(many, seed):
    worths = steps(seed)
    return sorted(range(many), key=lambda number: next(worths))


class Beside(WritingCase):
    def test_written_out(self):
        one, other = made_writing(1, 2, (0, 1)), made_writing(1, 3, (2, 1))
        self.same(beside(one, other), (2, 6, (2, 5, 1, 4)))
        self.same(beside(other, one), (2, 6, (4, 2, 5, 3)))

    def test_nothing_where_one_reads_nothing(self):
        one, other = made_writing(1, 2, (None, 1)), made_writing(1, 2, (0, None))
        self.same(beside(one, other), (2, 4, (None, 2, None, None)))

    def test_against_the_definition(self):
        for one, other in itertools.product(SMALL, repeat=2):
            self.same(beside(one, other), plain_beside(one, other))

    def test_eight_spots_and_nine(self):
        for n in range(1, 8):
            one = mixed(n, 3, n)
            self.same(beside(one, mixed(8 - n, 2, n)), plain_beside(one, mixed(8 - n, 2, n)))
            self.refused(beside, one, mixed(9 - n, 2, n))
        self.refused(beside, mixed(8, 2, 1), mixed(1, 2, 1))
        self.refused(beside, mixed(8, 2, 1), mixed(8, 2, 1))

    def test_a_hundred_numbers_and_more(self):
        for one, other in ((2, 50), (50, 2), (10, 10), (4, 25), (33, 3)):
            pair = mixed(2, one, 1), mixed(2, other, 2)
            self.same(beside(*pair), plain_beside(*pair))
        for one, other in ((2, 51), (51, 2), (10, 11), (11, 10), (100, 2), (100, 100), (34, 3)):
            self.refused(beside, mixed(2, one, 1), mixed(2, other, 2))


class Later(WritingCase):
    def test_written_out(self):
        one, other = made_writing(1, 3, (0, 1)), made_writing(1, 3, (1, 2))
        self.same(later(one, other), (2, 3, (0, 1, 2, 2)))
        self.same(later(other, one), (2, 3, (1, 2, 1, 1)))

    def test_other_reads_nothing_where_it_does_even_if_one_reads(self):
        one, other = made_writing(1, 2, (0, 1)), made_writing(1, 2, (0, None))
        self.same(later(one, other), (2, 2, (0, 1, None, None)))
        self.same(later(other, one), (2, 2, (0, None, 1, 1)))

    def test_against_the_definition(self):
        for one, other in itertools.product(SMALL, repeat=2):
            if one[1] == other[1]:
                self.same(later(one, other), plain_later(one, other))

    def test_as_many_numbers_and_one_more(self):
        for k in (2, 3, 50, 99):
            self.same(later(mixed(2, k, 1), mixed(3, k, 2)), plain_later(mixed(2, k, 1), mixed(3, k, 2)))
            self.refused(later, mixed(2, k, 1), mixed(3, k + 1, 2))
            self.refused(later, mixed(2, k + 1, 1), mixed(3, k, 2))
        self.same(later(mixed(2, 100, 1), mixed(3, 100, 2)), plain_later(mixed(2, 100, 1), mixed(3, 100, 2)))

    def test_eight_spots_and_nine(self):
        for n in range(1, 8):
            one, other = mixed(n, 3, n), mixed(8 - n, 3, n)
            self.same(later(one, other), plain_later(one, other))
            self.refused(later, one, mixed(9 - n, 3, n))
        self.refused(later, mixed(8, 2, 1), mixed(1, 2, 1))


class Blank(WritingCase):
    def test_only_no_cuts_change(self):
        for writing in SMALL + [mixed(8, 100, 1)]:
            n, k, table = writing
            self.same(blank(writing), (n, k, (None,) + table[1:]))
            self.same(blank(blank(writing)), blank(writing))
        self.same(blank(made_writing(1, 2, (0, 1))), (1, 2, (None, 1)))


class Fewer(WritingCase):
    def test_written_out(self):
        self.same(fewer(made_writing(2, 4, (0, 1, 2, 3)), 2), (2, 2, (0, 1, None, None)))
        self.same(fewer(made_writing(2, 4, (3, None, 2, 0)), 3), (2, 3, (None, None, 2, 0)))

    def test_each_k(self):
        for writing in SMALL + [mixed(6, 100, 1)]:
            n, own, table = writing
            for k in range(2, own + 1):
                kept = tuple(number if number in range(k) else None for number in table)
                self.same(fewer(writing, k), (n, k, kept))
            self.same(fewer(writing, own), writing)

    def test_one_two_all_and_one_more(self):
        for writing in SMALL:
            self.refused(fewer, writing, 1)
            self.refused(fewer, writing, 0)
            self.refused(fewer, writing, -1)
            self.assertEqual(fewer(writing, 2)[1], 2)
            self.assertEqual(fewer(writing, writing[1])[1], writing[1])
            self.refused(fewer, writing, writing[1] + 1)
        self.refused(fewer, mixed(2, 100, 1), 101)
        self.refused(fewer, mixed(2, 2, 1), 3)

    def test_whatever_k_is(self):
        for thing in NO_NUMBERS + FAR + [None]:
            self.refused(fewer, mixed(2, 5, 1), thing)


class Padded(WritingCase):
    def test_written_out(self):
        self.same(padded(made_writing(1, 2, (0, 1)), 1), (2, 2, (0, 1, 0, 1)))
        self.same(padded(made_writing(1, 2, (None, 1)), 2), (3, 2, (None, 1) * 4))

    def test_as_many_as_there_is_room_for(self):
        for n in range(1, 9):
            writing = mixed(n, 3, n)
            for more in range(9 - n):
                table = tuple(writing[2][part(cuts, 0, n)] for cuts in range(2 ** (n + more)))
                self.same(padded(writing, more), (n + more, 3, table))
            self.same(padded(writing, 0), writing)
            self.refused(padded, writing, 9 - n)
            self.refused(padded, writing, 10)
            self.refused(padded, writing, -1)

    def test_whatever_more_is(self):
        for thing in NO_NUMBERS + FAR + [None]:
            self.refused(padded, GAPS, thing)


class Renamed(WritingCase):
    def test_written_out(self):
        writing = made_writing(2, 3, (0, 1, 2, None))
        self.same(renamed(writing, [0, 1], [0, 1, 2]), writing)
        self.same(renamed(writing, [1, 0], [0, 1, 2]), (2, 3, (0, 2, 1, None)))
        self.same(renamed(writing, [0, 1], [1, 2, 0]), (2, 3, (1, 2, 0, None)))

    def test_what_was_spot_i_is_spots_i(self):
        # Spot 0 becomes 1, 1 becomes 2, 2 becomes 0; the other way round would read otherwise.
        writing = made_writing(3, 4, (0, 1, 2, None, 3, None, None, None))
        self.same(renamed(writing, [1, 2, 0], [0, 1, 2, 3]), (3, 4, (0, 3, 1, None, 2, None, None, None)))
        self.same(renamed(writing, [0, 1, 2], [1, 2, 3, 0]), (3, 4, (1, 2, 3, None, 0, None, None, None)))

    def test_every_order_of_three_spots_and_three_numbers(self):
        writing = mixed(3, 3, 4)
        for new_spots in itertools.permutations(range(3)):
            for numbers in itertools.permutations(range(3)):
                given = list(new_spots), list(numbers)
                self.same(renamed(writing, *given), plain_renamed(writing, *given))
                self.assertEqual(given, (list(new_spots), list(numbers)))

    def test_more_spots_and_numbers(self):
        for n, k in ((1, 2), (4, 7), (8, 100), (8, 3)):
            for seed in range(4):
                given = shuffled(n, seed), shuffled(k, seed + 9)
                self.same(renamed(mixed(n, k, seed), *given), plain_renamed(mixed(n, k, seed), *given))

    def test_one_left_out_twice_beyond_or_no_number(self):
        good_spots, good_numbers = [1, 0], [2, 0, 1]
        for wrong in ([], [0], [1], [0, 0], [1, 1], [0, 2], [2, 1], [0, -1], [0, 1, 2], [0, 1, 1], [0, 1, 0],
                      [0, True], [False, 1], [True, False], (0, 1), (1, 0), "01", None, 0, 10, [0, "1"], [0, None],
                      [[0], [1]], [0, 10 ** 59], [0, []]):
            self.refused(renamed, GAPS, wrong, good_numbers)
        for wrong in ([], [0], [0, 1], [0, 0, 1], [0, 1, 3], [1, 2, 3], [-1, 0, 1], [0, 1, 2, 3], [0, 1, 2, 2],
                      [0, True, 2], [False, 1, 2], (0, 1, 2), "012", None, 3, [0, 1, "2"], [0, 1, None], [0, 1, [2]]):
            self.refused(renamed, GAPS, good_spots, wrong)

    def test_whatever_they_are(self):
        for thing in WHATEVER:
            self.refused(renamed, GAPS, thing, [0, 1, 2])
            self.refused(renamed, GAPS, [0, 1], thing)
            self.refused(renamed, GAPS, thing, thing)
            self.refused(renamed, GAPS, [thing, 0] if thing != 1 or thing is True else [], [0, 1, 2])
            self.refused(renamed, GAPS, [0, 1], [0, thing, 2] if thing != 1 or thing is True else [])

    def test_the_lists_stay_as_they_are_and_are_not_kept(self):
        new_spots, numbers = [1, 0], [2, 0, 1]
        told = renamed(GAPS, new_spots, numbers)
        self.assertEqual((new_spots, numbers), ([1, 0], [2, 0, 1]))
        new_spots.clear()
        numbers.reverse()
        self.assertEqual(told, plain_renamed(GAPS, [1, 0], [2, 0, 1]))


class Again(unittest.TestCase):
    def test_asking_again_tells_the_same_and_changes_nothing(self):
        one, other = mixed(2, 3, 1), mixed(3, 3, 2)
        before = repr((one, other))
        for ask, given in (
            (beside, (one, other)), (later, (one, other)), (blank, (one,)), (fewer, (one, 2)), (padded, (one, 3)),
            (renamed, (one, [1, 0], [1, 2, 0])),
        ):
            self.assertEqual(ask(*given), ask(*given))
        self.assertEqual(repr((one, other)), before)


if __name__ == "__main__":
    unittest.main()
