"""Point 16: sealed writings; point 19: halves."""

import copy
import itertools
import unittest

from notchledger.joined import blank, padded
from notchledger.made import copies, twice, unary
from notchledger.sealing import compared, could_read, right_open, sealing
from notchledger.writings import made_writing
from plain import WHATEVER, bent, is_int, mixed, plain_holds, spots

# Two of three spots are cut in each cuts that read a number.
SEALED = made_writing(3, 3, (None, None, None, 0, None, 1, 2, None))
OPEN = made_writing(3, 3, (None, 1, None, None, None, None, 2, 0))
SAME_NUMBER = made_writing(2, 2, (None, 1, None, 1))
EMPTY = made_writing(2, 2, (None,) * 4)
WRITINGS = [SEALED, OPEN, SAME_NUMBER, EMPTY] + [mixed(n, k, 7 * n + k) for n in (1, 2, 3, 4) for k in (2, 3, 9)]


def is_pair(writing, low, high):
    """Point 16: two cuts that read numbers, unlike, high holding low."""
    reads = writing[2][low] is not None and writing[2][high] is not None
    return reads and spots(low) < spots(high)


def pairs(writing):
    every = range(2 ** writing[0])
    return [pair for pair in itertools.product(every, every) if is_pair(writing, *pair)]


def plain_open(writing, paper):
    if type(paper) is not tuple or len(paper) != 3 or type(paper[0]) is not str or paper[0] != "open":
        return False
    last = 2 ** writing[0] - 1
    return is_int(paper[1], 0, last) and is_int(paper[2], 0, last) and is_pair(writing, *paper[1:])


class Sealing(unittest.TestCase):
    def check(self, writing):
        told = sealing(writing)
        if pairs(writing):
            self.assertIs(type(told), tuple)
            self.assertTrue(plain_open(writing, told), (writing, told))
            self.assertIs(right_open(writing, told), True)
        else:
            self.assertEqual(told, ("sealed",))
            self.assertIs(right_open(writing, told), False)
        self.assertEqual(sealing(writing), told)

    def test_written_out(self):
        self.assertEqual(sealing(SEALED), ("sealed",))
        self.assertEqual(sealing(EMPTY), ("sealed",))
        self.assertIn(sealing(OPEN), [("open", 1, 7), ("open", 6, 7)])

    def test_two_cuts_that_read_the_same_number(self):
        self.assertEqual(sealing(SAME_NUMBER), ("open", 1, 3))

    def test_one_cuts_alone_are_sealed(self):
        for cuts in range(8):
            table = [None] * 8
            table[cuts] = 0
            self.assertEqual(sealing(made_writing(3, 2, tuple(table))), ("sealed",))

    def test_not_by_size_but_by_holding(self):
        self.assertEqual(sealing(made_writing(2, 2, (None, 0, 1, None))), ("sealed",))
        self.assertEqual(sealing(made_writing(3, 2, (None, 0, None, None, None, None, 1, None))), ("sealed",))

    def test_every_writing_of_two_spots(self):
        for table in itertools.product((None, 0, 1), repeat=4):
            self.check((2, 2, table))

    def test_one_pair_anywhere(self):
        for low, high in itertools.combinations(range(16), 2):
            table = [None] * 16
            table[low], table[high] = 0, 1
            self.check((4, 2, tuple(table)))

    def test_others(self):
        for writing in WRITINGS + [twice(4), unary(5), copies(3, 2), blank(unary(3)), padded(SEALED, 1)]:
            self.check(writing)

    def test_eight_spots(self):
        middle = [len(spots(cuts)) == 4 for cuts in range(256)]
        numbers = itertools.count()
        sealed = made_writing(8, 70, tuple(next(numbers) if four else None for four in middle))
        self.assertEqual(sealing(sealed), ("sealed",))
        self.check(mixed(8, 100, 1))
        self.check(made_writing(8, 2, (0,) + (None,) * 254 + (1,)))


class RightOpen(unittest.TestCase):
    def test_every_two_cuts(self):
        for writing in WRITINGS:
            every = range(2 ** writing[0])
            for low, high in itertools.product(every, every):
                paper = ("open", low, high)
                self.assertIs(right_open(writing, paper), is_pair(writing, low, high), (writing, paper))

    def test_bent_at_each_place(self):
        for writing in WRITINGS:
            for low, high in pairs(writing)[:6]:
                for paper in bent(("open", low, high)):
                    self.assertIs(right_open(writing, paper), plain_open(writing, paper), (writing, paper))

    def test_named_ones(self):
        self.assertIs(right_open(OPEN, ("open", 1, 7)), True)
        self.assertIs(right_open(SAME_NUMBER, ("open", 1, 3)), True)
        for paper in (
            ("open", 7, 1), ("open", 1, 1), ("open", 7, 7), ("open", 1, 6), ("open", 0, 7), ("open", 1, 3),
            ("sealed", 1, 7), ("opens", 1, 7), ("", 1, 7), (None, 1, 7), ("open", 1), ("open",), (),
            ("open", 1, 7, 7), ["open", 1, 7], ("open", (1, 7)), ("open", True, 7), ("open", 1, 15), ("open", -7, 7),
            ("open", 1, -1), ("open", "1", 7), ("open", 1, None), ("open", [1], 7), ("sealed",), "open", ("open", 1, 8),
        ):
            self.assertIs(right_open(OPEN, paper), False, paper)

    def test_false_for_0(self):
        writing = made_writing(1, 2, (0, 1))
        self.assertIs(right_open(writing, ("open", 0, 1)), True)
        self.assertIs(right_open(writing, ("open", False, 1)), False)
        self.assertIs(right_open(writing, ("open", 0, True)), False)

    def test_whatever_it_is(self):
        for writing in WRITINGS:
            for thing in WHATEVER:
                papers = (thing, (thing,), (thing, 1, 3), ("open", thing, 3), ("open", 1, thing), ("open", 0, 1, thing))
                before = copy.deepcopy(papers)
                for paper in papers:
                    self.assertIs(right_open(writing, paper), plain_open(writing, paper), repr(paper)[:100])
                self.assertEqual(repr(papers), repr(before))


class CouldRead(unittest.TestCase):
    def test_written_out(self):
        self.assertEqual(could_read(OPEN, 0), [0, 1, 2])
        self.assertEqual(could_read(OPEN, 1), [0])
        self.assertEqual(could_read(OPEN, 6), [0])
        self.assertEqual(could_read(OPEN, 7), [])
        self.assertEqual(could_read(SAME_NUMBER, 1), [1])
        self.assertEqual(could_read(SAME_NUMBER, 3), [])
        self.assertEqual(could_read(EMPTY, 0), [])

    def test_from_all_cuts(self):
        for writing in WRITINGS + [mixed(6, 20, 3)]:
            every = range(2 ** writing[0])
            for cuts in every:
                above = {writing[2][up] for up in every if plain_holds(up, cuts) and up != cuts} - {None}
                told = could_read(writing, cuts)
                self.assertEqual(repr(told), repr(sorted(above)))

    def test_of_sealed_writings_none_where_a_number_is_read(self):
        for cuts in (3, 5, 6):
            self.assertEqual(could_read(SEALED, cuts), [])

    def test_each_list_is_a_new_one(self):
        told = could_read(OPEN, 0)
        told.append(9)
        told[0] = 5
        self.assertEqual(could_read(OPEN, 0), [0, 1, 2])
        self.assertIsNot(could_read(EMPTY, 0), could_read(EMPTY, 0))

    def test_somewhat_beyond_is_no_error(self):
        self.assertEqual(could_read(OPEN, 8), [])
        self.assertEqual(could_read(OPEN, -1), [])


class Compared(unittest.TestCase):
    def test_written_out(self):
        self.assertEqual(compared(OPEN, 1, 1), ("same", 1, 1))
        self.assertEqual(compared(OPEN, 0, 0), ("same", 0, None))
        self.assertEqual(compared(OPEN, 7, 7), ("same", 7, 0))
        self.assertEqual(compared(OPEN, 7, 1), ("stock", 1, 1))
        self.assertEqual(compared(OPEN, 6, 7), ("foil", 6, 2))
        self.assertEqual(compared(OPEN, 3, 5), ("both", 1, 1))

    def test_common_cuts_that_read_nothing(self):
        self.assertEqual(compared(OPEN, 1, 6), ("both", 0, None))
        self.assertEqual(compared(OPEN, 6, 2), ("stock", 2, None))
        self.assertEqual(compared(OPEN, 0, 7), ("foil", 0, None))

    def test_nought_is_a_number(self):
        writing = made_writing(2, 2, (0, 1, 1, 0))
        self.assertEqual(repr(compared(writing, 1, 2)), "('both', 0, 0)")

    def test_all_halves(self):
        words = {(False, False): "same", (True, False): "stock", (False, True): "foil", (True, True): "both"}
        for writing in WRITINGS:
            every = range(2 ** writing[0])
            for stock, foil in itertools.product(every, every):
                mine, yours = spots(stock), spots(foil)
                common = sum(2 ** spot for spot in mine & yours)
                plain = (words[bool(mine - yours), bool(yours - mine)], common, writing[2][common])
                self.assertEqual(repr(compared(writing, stock, foil)), repr(plain))

    def test_if_one_holder_alone_cut_alone_common_is_what_was_written(self):
        for written in range(8):
            for cut in range(8):
                more = written | cut
                self.assertEqual(compared(OPEN, more, written)[1:], (written, OPEN[2][written]))
                self.assertEqual(compared(OPEN, written, more)[1:], (written, OPEN[2][written]))

    def test_somewhat_beyond_is_no_error(self):
        self.assertEqual(compared(OPEN, 8, 8), ("same", 8, None))
        self.assertEqual(compared(OPEN, 9, 1), ("stock", 1, 1))


class LeftAsItIs(unittest.TestCase):
    def test_the_writing(self):
        before = repr(OPEN)
        sealing(OPEN)
        could_read(OPEN, 0).clear()
        compared(OPEN, 1, 2)
        self.assertEqual(repr(OPEN), before)


if __name__ == "__main__":
    unittest.main()
