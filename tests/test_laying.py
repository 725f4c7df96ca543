"""Points 23 and 24: copies that were cut apart and are laid together."""

import itertools
import unittest

from notchledger.cuts import laid
from notchledger.joined import blank, fewer, padded
from notchledger.laying import laying, right_not, tops
from notchledger.made import twice, unary, weighed
from notchledger.writings import made_writing, numbers_read
from plain import (
    PaperCase, TellingCase, TimedCase, bent, full, is_worded, mixed, plain_holds, plain_reads, spots, steps, sums,
)

WORDS = ("greater", "either", "honest")
# Spots 0 and 1 alone read 0 and 1; both read the greater one, the less one, another one, nothing.
GREATER = made_writing(2, 3, (None, 0, 1, 1))
EITHER = made_writing(2, 3, (None, 0, 1, 0))
NEITHER = made_writing(2, 3, (None, 0, 1, 2))
HONEST = made_writing(2, 3, (None, 0, 1, None))
# Two cuts that read the same number, and together another one, or nothing.
ALIKE_OTHER = made_writing(2, 3, (None, 1, 1, 2))
ALIKE_NOTHING = made_writing(2, 3, (None, 1, 1, None))
EMPTY = made_writing(2, 2, (None,) * 4)
NAMED = [GREATER, EITHER, NEITHER, HONEST, ALIKE_OTHER, ALIKE_NOTHING, EMPTY]
SMALL = NAMED + [unary(n) for n in range(1, 5)] + [blank(unary(3)), padded(unary(2), 1), fewer(unary(3), 2), twice(3)]
SMALL += [sums([1, 2], 4), sums([1, 1], 3), sums([1, 2, 4], 8), sums([1, 1, 1], 2)]
SMALL += [mixed(n, k, 13 * n + k) for n in (1, 2, 3) for k in (2, 3, 7)] + [full(3, 2, 4)]


def every(writing):
    return range(2 ** writing[0])


def both(one, other):
    return sum(2 ** spot for spot in spots(one) | spots(other))


def is_so(writing, how, one, other):
    """Point 23 of two cuts that read numbers."""
    table = writing[2]
    read = table[both(one, other)]
    if how == "greater":
        return read is not None and read == max(table[one], table[other])
    if how == "either":
        return read is not None and (read == table[one] or read == table[other])
    return read is None or read == table[one] or read == table[other]


def plain_not(writing, how, paper):
    return is_worded(paper, "not", 3) and plain_reads(writing, *paper[1:]) and not is_so(writing, how, *paper[1:])


def not_so(writing, how):
    pairs = itertools.product(every(writing), repeat=2)
    return [pair for pair in pairs if plain_not(writing, how, ("not", *pair))]


def plain_tops(writing):
    told = []
    for number in range(writing[1]):
        some = [cuts for cuts in every(writing) if writing[2][cuts] == number]
        if some:
            told.append((number, sum(2 ** spot for spot in set.union(*[spots(cuts) for cuts in some]))))
    return told


def by_the_highest(n):
    """Cuts read how many spots there are up to the highest cut one; this lays greater."""
    return made_writing(n, n + 1, tuple(max(spots(cuts), default=-1) + 1 for cuts in range(2 ** n)))


class Laying(TellingCase):
    def check(self, writing, how):
        self.tells(laying, (writing, how), not not_so(writing, how), "so", right_not, plain_not)

    def test_named_ones(self):
        so = {
            GREATER: (True, True, True), EITHER: (False, True, True), NEITHER: (False, False, False),
            HONEST: (False, False, True), ALIKE_OTHER: (False, False, False), ALIKE_NOTHING: (False, False, True),
            EMPTY: (True, True, True),
        }
        for writing, truths in so.items():
            for how, truth in zip(WORDS, truths):
                self.assertEqual(laying(writing, how) == ("so",), truth, (writing, how))
                self.check(writing, how)

    def test_which_two(self):
        for how in WORDS:
            self.assertIn(laying(NEITHER, how), [("not", 1, 2), ("not", 2, 1)])

    def test_others(self):
        for writing in SMALL + [mixed(4, 3, 2), full(4, 2, 5), by_the_highest(4)]:
            for how in WORDS:
                self.check(writing, how)

    def test_every_writing_of_two_spots(self):
        for table in itertools.product((None, 0, 1), repeat=4):
            for how in WORDS:
                self.check((2, 2, table), how)

    def test_unary_lays_greater(self):
        for n in range(1, 9):
            for how in WORDS:
                self.assertEqual(laying(unary(n), how), ("so",))
                self.assertEqual(laying(by_the_highest(n), how), ("so",))

    def test_greater_is_either_is_honest(self):
        for table in itertools.product((None, 0, 1), repeat=8):
            if sum(number is None for number in table) >= 4:
                so = [laying((3, 2, table), how) == ("so",) for how in WORDS]
                self.assertEqual(so, sorted(so))


class RightNot(PaperCase):
    def test_every_two_cuts(self):
        for writing in SMALL:
            for how in WORDS:
                papers = [("not", *pair) for pair in itertools.product(every(writing), repeat=2)]
                granted = self.agree(right_not, plain_not, (writing, how), papers)
                self.assertEqual(granted, len(not_so(writing, how)))

    def test_bent_at_each_place(self):
        for writing in SMALL:
            for how in WORDS:
                for pair in not_so(writing, "greater")[:5]:
                    self.agree(right_not, plain_not, (writing, how), [("not", *pair), *bent(("not", *pair))])

    def test_named_ones(self):
        for how in WORDS:
            self.assertIs(right_not(NEITHER, how, ("not", 1, 2)), True)
            self.assertIs(right_not(NEITHER, how, ("not", 2, 1)), True)
            for paper in (
                ("not", 1, 1), ("not", 1, 3), ("not", 3, 2), ("not", 0, 2), ("not", 1, 0), ("not", 1, 6),
                ("not", -3, 2), ("not", True, 2), ("not", 1, "2"), ("not", "1", 2), ("not", 1, None), ("not", [1], 2),
                ["not", 1, 2],
                ("not", 1), ("not", 1, 2, 3), ("not", (1, 2)), ("so", 1, 2), ("Not", 1, 2), ("", 1, 2), (None, 1, 2),
                (False, 1, 2), (1, 2), ("so",), ("not",), (), None, "not", 0,
            ):
                self.assertIs(right_not(NEITHER, how, paper), False, paper)

    def test_whatever_it_is(self):
        for writing in (NEITHER, HONEST, mixed(3, 3, 4)):
            for how in WORDS:
                self.agree_on_whatever(right_not, plain_not, (writing, how), ("not", 1, 2))


class Tops(unittest.TestCase):
    def test_written_out(self):
        self.assertEqual(tops(GREATER), [(0, 1), (1, 3)])
        self.assertEqual(tops(ALIKE_OTHER), [(1, 3), (2, 3)])
        self.assertEqual(tops(EMPTY), [])
        self.assertEqual(tops(unary(3)), [(0, 0), (1, 1), (2, 3), (3, 7)])
        self.assertEqual(tops(made_writing(2, 9, (None, 7, None, 3))), [(3, 3), (7, 1)])

    def test_against_the_definition(self):
        for writing in SMALL + [mixed(4, 3, 2), mixed(8, 100, 3), full(6, 20, 1), unary(8), by_the_highest(8)]:
            self.assertEqual(repr(tops(writing)), repr(plain_tops(writing)))
            self.assertEqual(repr(tops(writing)), repr(plain_tops(writing)))

    def check_greater(self, writing):
        told = tops(writing)
        for number, cuts in told:
            self.assertEqual(writing[2][cuts], number)
        for (_, low), (_, high) in zip(told, told[1:]):
            self.assertTrue(plain_holds(high, low) and high != low)
        self.assertLessEqual(len(numbers_read(writing)), writing[0] + 1)

    def test_its_sentences_where_a_writing_lays_greater(self):
        for writing in SMALL + [by_the_highest(n) for n in range(1, 9)] + [unary(n) for n in range(1, 9)]:
            if laying(writing, "greater") == ("so",):
                self.check_greater(writing)
        greater = 0
        for table in itertools.product((None, 0, 1, 2), repeat=4):
            if laying((2, 3, table), "greater") == ("so",):
                greater += 1
                self.check_greater((2, 3, table))
        self.assertGreater(greater, 20)

    def test_laid_in_whatever_order_they_read_the_greatest(self):
        worths = steps(3)
        for writing in [unary(4), by_the_highest(3), by_the_highest(5), GREATER, blank(unary(5))]:
            self.assertEqual(laying(writing, "greater"), ("so",))
            some = [cuts for cuts in every(writing) if writing[2][cuts] is not None]
            for times in range(50):
                row = [some[next(worths) % len(some)] for _ in range(1 + next(worths) % 7)]
                greatest = max(writing[2][cuts] for cuts in row)
                for order in (row, row[::-1], sorted(row), row * 3):
                    self.assertEqual(writing[2][laid(order)], greatest)

    def test_each_list_is_a_new_one(self):
        told = tops(GREATER)
        told.append(9)
        told[0] = 5
        self.assertEqual(tops(GREATER), [(0, 1), (1, 3)])
        self.assertIsNot(tops(EMPTY), tops(EMPTY))


class EightSpots(TimedCase):
    def test_in_time(self):
        writings = [
            full(8, 100, 1), mixed(8, 100, 2), full(8, 2, 3), unary(8), by_the_highest(8),
            made_writing(8, 2, (1,) * 256), weighed([1, 2, 4, 8, 16, 32, 64, 99], 100),
            made_writing(8, 2, (None,) * 255 + (1,)),
        ]
        for writing in writings:
            self.timed(tops, writing)
            for how in WORDS:
                told = self.timed(laying, writing, how)
                self.assertIs(self.timed(right_not, writing, how, told), told != ("so",))

    def test_the_last_two_cuts_alone(self):
        table = [None] * 256
        table[254], table[253], table[255] = 1, 1, 0
        writing = made_writing(8, 2, tuple(table))
        for how in WORDS:
            self.assertTrue(plain_not(writing, how, laying(writing, how)))


class LeftAsItIs(unittest.TestCase):
    def test_the_writing(self):
        before = repr(NEITHER)
        for how in WORDS:
            laying(NEITHER, how)
        tops(NEITHER).clear()
        self.assertEqual(repr(NEITHER), before)


if __name__ == "__main__":
    unittest.main()
