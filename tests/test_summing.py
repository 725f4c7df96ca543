"""Point 25: two holders who each cut spots of their own."""

import itertools
import unittest

from notchledger.made import crossed, twice, unary, weighed
from notchledger.summing import right_apart, summing
from notchledger.writings import made_writing
from plain import PaperCase, TellingCase, TimedCase, bent, full, is_worded, mixed, plain_reads, spots, steps, sums

# No cuts read 1, spot 0 alone 2, spot 1 alone 0; both ought to read 2 + 0 - 1.
SO = made_writing(2, 3, (1, 2, 0, 1))
NOT_SO = made_writing(2, 3, (1, 2, 0, 0))
NOTHING = made_writing(2, 3, (1, 2, 0, None))
FROM_NOTHING = made_writing(2, 3, (None, 2, 0, 0))
EMPTY = made_writing(2, 2, (None,) * 4)
SMALL = [SO, NOT_SO, NOTHING, FROM_NOTHING, EMPTY, unary(3), twice(3), sums([1, 2, 3], 4), sums([1, 2], 3)]
SMALL += [mixed(n, k, 17 * n + k) for n in (1, 2, 3) for k in (2, 3, 7)] + [full(3, 2, 4), full(3, 5, 9)]


def two_lists(n):
    """Each two rising lists of spots, none in both."""
    for whose in itertools.product(("mine", "yours", "none"), repeat=n):
        yield tuple([spot for spot in range(n) if whose[spot] == word] for word in ("mine", "yours"))


def plain_apart(writing, mine, yours, paper):
    """Point 25, word for word."""
    if not is_worded(paper, "not", 4) or not plain_reads(writing, *paper[1:]):
        return False
    low, one, other = [spots(cuts) for cuts in paper[1:]]
    if not (low <= one and low <= other and one - low <= set(mine) and other - low <= set(yours)):
        return False
    cuts_read, one_read, other_read = [writing[2][cuts] for cuts in paper[1:]]
    ought = one_read + other_read - cuts_read
    while ought < 0:
        ought += writing[1]
    while ought >= writing[1]:
        ought -= writing[1]
    read = writing[2][sum(2 ** spot for spot in one | other)]
    return read is None or read != ought


def apart(writing, mine, yours):
    triples = itertools.product(range(2 ** writing[0]), repeat=3)
    return [triple for triple in triples if plain_apart(writing, mine, yours, ("not", *triple))]


class Summing(TellingCase):
    def check(self, writing, mine, yours):
        so = not apart(writing, mine, yours)
        self.tells(summing, (writing, mine, yours), so, "so", right_apart, plain_apart)

    def test_written_out(self):
        self.assertEqual(summing(SO, [0], [1]), ("so",))
        self.assertEqual(summing(NOT_SO, [0], [1]), ("not", 0, 1, 2))
        self.assertEqual(summing(NOT_SO, [1], [0]), ("not", 0, 2, 1))
        self.assertEqual(summing(FROM_NOTHING, [0], [1]), ("so",))

    def test_reading_nothing_is_not_so(self):
        self.assertEqual(summing(NOTHING, [0], [1]), ("not", 0, 1, 2))

    def test_brought_to_a_number_by_adding_or_taking_k(self):
        self.assertEqual(summing(made_writing(2, 3, (0, 2, 2, 1)), [0], [1]), ("so",))
        self.assertEqual(summing(made_writing(2, 3, (2, 0, 0, 1)), [0], [1]), ("so",))
        self.assertEqual(summing(made_writing(2, 5, (0, 4, 4, 3)), [0], [1]), ("so",))
        self.assertEqual(summing(made_writing(2, 5, (4, 0, 0, 1)), [0], [1]), ("so",))

    def test_each_two_lists(self):
        for writing in SMALL:
            for mine, yours in two_lists(writing[0]):
                self.check(writing, mine, yours)

    def test_every_writing_of_two_spots(self):
        for table in itertools.product((None, 0, 1, 2), repeat=4):
            for mine, yours in (([0], [1]), ([1], [0]), ([0, 1], []), ([], [])):
                self.check((2, 3, table), mine, yours)

    def test_an_empty_list_is_always_so(self):
        for writing in SMALL:
            whole = list(range(writing[0]))
            for mine, yours in (([], []), (whole, []), ([], whole)):
                self.assertEqual(summing(writing, mine, yours), ("so",))

    def test_more_spots(self):
        for writing in (mixed(4, 2, 1), full(4, 2, 2), sums([1, 2, 3, 4], 9), crossed([1, 2, 3, 1], 2)):
            for mine, yours in (([0, 1], [2, 3]), ([0, 3], [1]), ([2], [0, 1, 3]), ([0], [3])):
                self.check(writing, mine, yours)

    def test_weighed_writings_are_so_for_any_two_lists(self):
        worths = steps(9)
        for n in range(1, 6):
            for k in (2, 3, 10, 100):
                writing = weighed([next(worths) % k for _ in range(n)], k)
                for mine, yours in two_lists(n):
                    self.assertEqual(summing(writing, mine, yours), ("so",))

    def test_somewhat_beyond_is_no_error(self):
        self.assertEqual(summing(NOT_SO, [0, 5], [1, 9]), ("not", 0, 1, 2))
        self.assertEqual(summing(NOT_SO, [-1], [1]), ("so",))
        self.assertIs(right_apart(NOT_SO, [-1, 0], [1, 8], ("not", 0, 1, 2)), True)


class RightApart(PaperCase):
    def test_every_three_cuts(self):
        for writing in SMALL:
            for mine, yours in list(two_lists(writing[0]))[::2]:
                papers = [("not", *triple) for triple in itertools.product(range(2 ** writing[0]), repeat=3)]
                granted = self.agree(right_apart, plain_apart, (writing, mine, yours), papers)
                self.assertEqual(granted, len(apart(writing, mine, yours)))

    def test_bent_at_each_place(self):
        for writing in SMALL:
            for mine, yours in two_lists(writing[0]):
                for triple in apart(writing, mine, yours)[:3]:
                    for one, other in ((mine, yours), (yours, mine), (mine, []), ([], yours)):
                        papers = [("not", *triple), *bent(("not", *triple))]
                        self.agree(right_apart, plain_apart, (writing, one, other), papers)

    def test_named_ones(self):
        self.assertIs(right_apart(NOT_SO, [0], [1], ("not", 0, 1, 2)), True)
        self.assertIs(right_apart(NOT_SO, [1], [0], ("not", 0, 1, 2)), False)
        self.assertIs(right_apart(NOT_SO, [0], [], ("not", 0, 1, 2)), False)
        self.assertIs(right_apart(NOT_SO, [], [1], ("not", 0, 1, 2)), False)
        for paper in (
            ("not", 0, 2, 1), ("not", 0, 1, 1), ("not", 1, 1, 3), ("not", 0, 0, 2), ("not", 0, 1, 6), ("not", 4, 5, 6),
            ("not", 0, True, 2), ("not", False, 1, 2), ("not", "0", 1, 2), ("not", 0, 1, "2"), ("not", 0, 1, None),
            ("not", 0, [1], 2), ["not", 0, 1, 2], ("not", 0, 1), ("not", 0, 1, 2, 2), ("not", (0, 1, 2)),
            ("so", 0, 1, 2), ("NOT", 0, 1, 2), ("", 0, 1, 2), (None, 0, 1, 2), (0, 1, 2), ("not", -4, 1, 2), ("so",),
            ("not",), (), None, "not", 0,
        ):
            self.assertIs(right_apart(NOT_SO, [0], [1], paper), False, paper)

    def test_whatever_it_is(self):
        for writing in (SO, NOT_SO, NOTHING):
            self.agree_on_whatever(right_apart, plain_apart, (writing, [0], [1]), ("not", 0, 1, 2))


class EightSpots(TimedCase):
    def test_in_time(self):
        whole = list(range(8))
        lists = [(whole[:4], whole[4:]), (whole[::2], whole[1::2]), (whole, []), (whole[7:], whole[:7])]
        writings = [
            weighed([1, 2, 4, 8, 16, 32, 64, 99], 100), weighed([0] * 8, 2), full(8, 2, 1), mixed(8, 100, 1), unary(8),
            made_writing(8, 2, (0,) * 255 + (1,)),
        ]
        for writing in writings:
            for mine, yours in lists:
                told = self.timed(summing, writing, mine, yours)
                self.assertIs(self.timed(right_apart, writing, mine, yours, told), told != ("so",))

    def test_weighed_writings_are_so(self):
        for mine, yours in (([0, 1, 2, 3], [4, 5, 6, 7]), ([1, 6], [0, 2, 3, 4, 5, 7])):
            self.assertEqual(summing(weighed([1, 2, 4, 8, 16, 32, 64, 99], 100), mine, yours), ("so",))

    def test_the_last_cuts_alone(self):
        writing = made_writing(8, 2, (0,) * 255 + (1,))
        told = summing(writing, [0, 1, 2, 3], [4, 5, 6, 7])
        self.assertTrue(plain_apart(writing, [0, 1, 2, 3], [4, 5, 6, 7], told))


class LeftAsItIs(unittest.TestCase):
    def test_the_writing_and_the_lists(self):
        mine, yours, before = [0], [1], repr(NOT_SO)
        summing(NOT_SO, mine, yours)
        right_apart(NOT_SO, mine, yours, ("not", 0, 1, 2))
        self.assertEqual((mine, yours, repr(NOT_SO)), ([0], [1], before))


if __name__ == "__main__":
    unittest.main()
