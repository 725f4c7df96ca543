"""Points 20 and 21: tears that are found and mended; of point 22: how much room tears take."""

import itertools
import unittest

from notchledger.errors import Unsure
from notchledger.made import twice, unary, weighed
from notchledger.summed import summed
from notchledger.tearing import behind, finding, mended, mending, right_missed, right_unsure, tear_room
from notchledger.writings import made_writing
from plain import (
    PaperCase, TellingCase, TimedCase, bent, full, is_int, is_worded, mixed, plain_reads, plain_within, spots, sums,
)

TEARS = range(9)
# Spots 0 and 1 alone read 0 and 1, both of them nothing, all three 0 again.
GAPS = made_writing(3, 2, (None, 0, 1, None, None, None, None, 0))
SAME_NUMBER = made_writing(2, 2, (1, 1, None, 1))
EMPTY = made_writing(2, 2, (None,) * 4)
FAR_APART = made_writing(4, 2, (0,) + (None,) * 14 + (1,))
SMALL = [GAPS, SAME_NUMBER, EMPTY, FAR_APART, unary(3), twice(3), sums([1, 2, 3], 4), sums([1, 2], 3), sums([0, 0], 2)]
SMALL += [mixed(n, k, 11 * n + k) for n in (1, 2, 3) for k in (2, 3, 7)]
LARGER = [mixed(4, 3, 2), full(4, 5, 3), summed(4, 0), summed(5, 2), unary(5), sums([1, 2, 4, 8], 9), mixed(5, 2, 8)]


def every(writing):
    return range(2 ** writing[0])


def is_missed(writing, tears, low, high):
    """Point 20 of two cuts that read numbers."""
    return writing[2][low] != writing[2][high] and plain_within(tears, high, low)


def plain_missed(writing, tears, paper):
    return is_worded(paper, "missed", 3) and plain_reads(writing, *paper[1:]) and is_missed(writing, tears, *paper[1:])


def missed(writing, tears):
    some = [cuts for cuts in every(writing) if writing[2][cuts] is not None]
    return [pair for pair in itertools.product(some, some) if is_missed(writing, tears, *pair)]


def plain_unsure(writing, tears, paper):
    if not is_worded(paper, "unsure", 4) or not plain_reads(writing, *paper[1:3]):
        return False
    one, other, torn = paper[1:]
    if not is_int(torn, 0, 2 ** writing[0] - 1) or writing[2][one] == writing[2][other]:
        return False
    return plain_within(tears, torn, one) and plain_within(tears, torn, other)


def plain_behind(writing, tears, cuts):
    numbers = {writing[2][low] for low in every(writing) if plain_within(tears, cuts, low)}
    return sorted(numbers - {None})


def unsure(writing, tears):
    triples = itertools.product(every(writing), repeat=3)
    return [triple for triple in triples if plain_unsure(writing, tears, ("unsure", *triple))]


class EachWriting:
    """What holds of finding and of mending alike, each by its own check."""

    def test_every_writing_of_two_spots(self):
        for table in itertools.product((None, 0, 1), repeat=4):
            for tears in range(4):
                self.check((2, 2, table), tears)

    def test_one_pair_anywhere(self):
        for one, other in itertools.permutations(range(16), 2):
            table = [None] * 16
            table[one], table[other] = 0, 1
            for tears in range(6):
                self.check((4, 2, tuple(table)), tears)

    def test_others(self):
        for writing in SMALL + LARGER:
            for tears in TEARS:
                self.check(writing, tears)


class Finding(EachWriting, TellingCase):
    def check(self, writing, tears):
        found = not missed(writing, tears)
        self.tells(finding, (writing, tears), found, "finds", right_missed, plain_missed)

    def test_written_out(self):
        self.assertEqual(finding(GAPS, 1), ("finds",))
        self.assertEqual(finding(GAPS, 2), ("missed", 2, 7))
        self.assertEqual(finding(FAR_APART, 3), ("finds",))
        self.assertEqual(finding(FAR_APART, 4), ("missed", 0, 15))
        self.assertEqual(finding(made_writing(1, 2, (0, 1)), 0), ("finds",))
        self.assertEqual(finding(made_writing(1, 2, (0, 1)), 1), ("missed", 0, 1))

    def test_the_same_number_or_nothing_is_let_by(self):
        for tears in TEARS:
            self.assertEqual(finding(SAME_NUMBER, tears), ("finds",))
            self.assertEqual(finding(EMPTY, tears), ("finds",))
            self.assertEqual(finding(made_writing(2, 3, (2, None, None, None)), tears), ("finds",))

    def test_no_tears_are_always_found(self):
        for writing in SMALL + LARGER:
            self.assertEqual(finding(writing, 0), ("finds",))

    def test_somewhat_beyond_is_no_error(self):
        self.assertEqual(finding(FAR_APART, -1), ("finds",))
        self.assertEqual(finding(FAR_APART, 9), ("missed", 0, 15))


class RightMissed(PaperCase):
    def test_every_two_cuts(self):
        for writing in SMALL:
            for tears in TEARS:
                papers = [("missed", low, high) for low in every(writing) for high in every(writing)]
                granted = self.agree(right_missed, plain_missed, (writing, tears), papers)
                self.assertEqual(granted, len(missed(writing, tears)))

    def test_bent_at_each_place(self):
        for writing in SMALL + LARGER:
            for tears in (0, 1, 2, 8):
                for pair in missed(writing, 8)[:5]:
                    papers = [("missed", *pair), *bent(("missed", *pair))]
                    self.agree(right_missed, plain_missed, (writing, tears), papers)

    def test_named_ones(self):
        writing = made_writing(3, 3, (0, 1, None, 2, 0, 1, None, None))
        for paper in (("missed", 0, 1), ("missed", 0, 3), ("missed", 1, 3), ("missed", 0, 5), ("missed", 4, 5)):
            self.assertIs(right_missed(writing, 2, paper), True, paper)
        for paper in (
            ("missed", 1, 0), ("missed", 0, 0), ("missed", 0, 2), ("missed", 2, 3), ("missed", 0, 4), ("missed", 1, 5),
            ("missed", 3, 4), ("missed", 0, 8), ("missed", 0, 9), ("missed", -8, 1), ("missed", 0, True),
            ("missed", False, 1), ("missed", "0", 1), ("missed", 0, "1"), ("missed", 0, None), ("missed", [0], 1),
            ["missed", 0, 1], ("missed", 0), ("missed", 0, 1, 1), ("missed", (0, 1)), ("finds", 0, 1), ("miss", 0, 1),
            ("", 0, 1), (None, 0, 1), (0, 1), ("finds",), ("missed",), (), None, "missed", 0, ["missed"],
        ):
            self.assertIs(right_missed(writing, 2, paper), False, paper)

    def test_more_further_cuts_than_tears(self):
        for tears in TEARS:
            self.assertIs(right_missed(FAR_APART, tears, ("missed", 0, 15)), tears >= 4)

    def test_whatever_it_is(self):
        for writing in (GAPS, SMALL[4], mixed(3, 3, 4)):
            for tears in (0, 2):
                self.agree_on_whatever(right_missed, plain_missed, (writing, tears), ("missed", 1, 7))
                self.agree_on_whatever(right_missed, plain_missed, (writing, tears), ("missed", 0, 1))


class Behind(unittest.TestCase):
    def test_written_out(self):
        self.assertEqual(behind(GAPS, 0, 0), [])
        self.assertEqual(behind(GAPS, 0, 1), [0])
        self.assertEqual(behind(GAPS, 0, 3), [])
        self.assertEqual(behind(GAPS, 1, 3), [0, 1])
        self.assertEqual(behind(GAPS, 1, 5), [0])
        self.assertEqual(behind(GAPS, 1, 7), [0])
        self.assertEqual(behind(GAPS, 2, 7), [0, 1])
        self.assertEqual(behind(GAPS, 8, 4), [])
        self.assertEqual(repr(behind(SAME_NUMBER, 2, 3)), "[1]")

    def test_from_all_cuts(self):
        for writing in SMALL + LARGER + [full(4, 100, 6)]:
            for tears in TEARS:
                for cuts in every(writing):
                    self.assertEqual(repr(behind(writing, tears, cuts)), repr(plain_behind(writing, tears, cuts)))

    def test_each_list_is_a_new_one(self):
        told = behind(GAPS, 2, 7)
        told.append(9)
        told[0] = 5
        self.assertEqual(behind(GAPS, 2, 7), [0, 1])
        self.assertIsNot(behind(GAPS, 0, 0), behind(GAPS, 0, 0))

    def test_somewhat_beyond_is_no_error(self):
        self.assertEqual(behind(GAPS, -1, 7), [])
        self.assertEqual(behind(GAPS, 9, 7), [0, 1])
        for cuts in (-1, 8, 15):
            self.assertIsInstance(behind(GAPS, 1, cuts), list)


class Mending(EachWriting, TellingCase):
    def check(self, writing, tears):
        sure = all(len(plain_behind(writing, tears, cuts)) < 2 for cuts in every(writing))
        self.tells(mending, (writing, tears), sure, "mends", right_unsure, plain_unsure)

    def test_written_out(self):
        self.assertEqual(mending(GAPS, 0), ("mends",))
        told = mending(GAPS, 1)
        self.assertIn(told, [("unsure", 1, 2, 3), ("unsure", 2, 1, 3)])
        self.assertEqual(mending(FAR_APART, 3), ("mends",))
        self.assertIn(mending(FAR_APART, 4), [("unsure", 0, 15, 15), ("unsure", 15, 0, 15)])

    def test_the_same_number_twice_is_mended(self):
        for tears in TEARS:
            self.assertEqual(mending(SAME_NUMBER, tears), ("mends",))
            self.assertEqual(mending(EMPTY, tears), ("mends",))

    def test_found_is_not_yet_mended(self):
        writing = made_writing(2, 2, (None, 0, 1, None))
        for tears in range(1, 9):
            self.assertEqual(finding(writing, tears), ("finds",))
            self.assertEqual(mending(writing, tears)[0], "unsure")

    def test_torn_cuts_may_read_a_third_number(self):
        writing = made_writing(2, 3, (None, 0, 1, 2))
        self.check(writing, 1)
        self.assertEqual(mending(writing, 1)[0], "unsure")

    def test_no_tears_are_always_mended(self):
        for writing in SMALL + LARGER:
            self.assertEqual(mending(writing, 0), ("mends",))

    def test_somewhat_beyond_is_no_error(self):
        self.assertEqual(mending(FAR_APART, -1), ("mends",))
        self.assertEqual(mending(FAR_APART, 9)[0], "unsure")


class RightUnsure(PaperCase):
    def test_every_three_cuts(self):
        for writing in SMALL:
            for tears in (0, 1, 2, 3, 8):
                papers = [("unsure", *triple) for triple in itertools.product(every(writing), repeat=3)]
                granted = self.agree(right_unsure, plain_unsure, (writing, tears), papers)
                self.assertEqual(granted, len(unsure(writing, tears)))

    def test_bent_at_each_place(self):
        for writing in SMALL + LARGER[:3]:
            for tears in (0, 1, 2, 8):
                for triple in unsure(writing, 8)[:5]:
                    papers = [("unsure", *triple), *bent(("unsure", *triple))]
                    self.agree(right_unsure, plain_unsure, (writing, tears), papers)

    def test_named_ones(self):
        for paper in (("unsure", 1, 2, 3), ("unsure", 2, 1, 3)):
            self.assertIs(right_unsure(GAPS, 1, paper), True, paper)
        for paper in (
            ("unsure", 1, 2, 7), ("unsure", 1, 2, 2), ("unsure", 1, 2, 1), ("unsure", 1, 1, 3), ("unsure", 1, 7, 7),
            ("unsure", 2, 7, 7), ("unsure", 1, 0, 1), ("unsure", 0, 2, 2), ("unsure", 1, 2, 11), ("unsure", 1, 2, -1),
            ("unsure", 9, 2, 3), ("unsure", True, 2, 3), ("unsure", 1, 2, "3"), ("unsure", 1, "2", 3),
            ("unsure", 1, 2, None), ("unsure", 1, 2), ("unsure", 1, 2, 3, 3), ("unsure", (1, 2), 3),
            ("unsure", [1], 2, 3), ["unsure", 1, 2, 3], ("mends", 1, 2, 3), ("sure", 1, 2, 3), ("", 1, 2, 3),
            (None, 1, 2, 3), (1, 2, 3), ("mends",), ("unsure",), (), None, "unsure", 0,
        ):
            self.assertIs(right_unsure(GAPS, 1, paper), False, paper)

    def test_true_for_1_in_the_torn_ones(self):
        writing = made_writing(1, 2, (0, 1))
        self.assertIs(right_unsure(writing, 1, ("unsure", 0, 1, 1)), True)
        self.assertIs(right_unsure(writing, 1, ("unsure", 0, 1, True)), False)
        self.assertIs(right_unsure(writing, 1, ("unsure", False, 1, 1)), False)

    def test_more_further_cuts_than_tears(self):
        for tears in TEARS:
            self.assertIs(right_unsure(FAR_APART, tears, ("unsure", 0, 15, 15)), tears >= 4)
            self.assertIs(right_unsure(FAR_APART, tears, ("unsure", 15, 0, 15)), tears >= 4)

    def test_whatever_it_is(self):
        for writing in (GAPS, SMALL[4], mixed(3, 3, 4)):
            for tears in (0, 1):
                self.agree_on_whatever(right_unsure, plain_unsure, (writing, tears), ("unsure", 1, 2, 3))
                self.agree_on_whatever(right_unsure, plain_unsure, (writing, tears), ("unsure", 0, 1, 1))


class Mended(unittest.TestCase):
    def check(self, writing, tears, cuts):
        numbers = plain_behind(writing, tears, cuts)
        if len(numbers) > 1:
            with self.assertRaises(Unsure) as caught:
                mended(writing, tears, cuts)
            self.assertEqual(caught.exception.args, ())
        else:
            plain = numbers[0] if numbers else None
            self.assertEqual(repr(mended(writing, tears, cuts)), repr(plain))
            self.assertEqual(repr(mended(writing, tears, cuts)), repr(plain))

    def test_written_out(self):
        self.assertEqual(repr(mended(GAPS, 1, 5)), "0")
        self.assertEqual(mended(GAPS, 1, 6), 1)
        self.assertIsNone(mended(GAPS, 1, 0))
        self.assertIsNone(mended(GAPS, 0, 3))
        for tears, cuts in ((1, 3), (2, 7), (8, 7)):
            with self.assertRaises(Unsure):
                mended(GAPS, tears, cuts)

    def test_what_the_cuts_read_themselves_is_not_enough(self):
        writing = made_writing(1, 2, (0, 1))
        self.assertEqual(mended(writing, 0, 1), 1)
        with self.assertRaises(Unsure):
            mended(writing, 1, 1)

    def test_from_all_cuts(self):
        for writing in SMALL + LARGER + [full(4, 100, 6)]:
            for tears in TEARS:
                for cuts in every(writing):
                    self.check(writing, tears, cuts)

    def test_whatever_was_written_and_whichever_spots_tore(self):
        mending_ones = 0
        for writing in SMALL + LARGER + [summed(n, rest) for n in range(3, 8) for rest in (0, 1, n)]:
            for tears in range(1, 5):
                if mending(writing, tears) == ("mends",):
                    mending_ones += 1
                    self.torn_and_told_again(writing, tears)
        self.assertGreater(mending_ones, 20)

    def torn_and_told_again(self, writing, tears):
        for cuts in every(writing):
            if writing[2][cuts] is not None:
                for many in range(tears + 1):
                    for tearing in itertools.combinations(range(writing[0]), many):
                        torn = sum(2 ** spot for spot in spots(cuts) | set(tearing))
                        self.assertEqual(mended(writing, tears, torn), writing[2][cuts])


class TearRoom(unittest.TestCase):
    def test_written_out(self):
        self.assertEqual(tear_room(EMPTY, 3), 0)
        self.assertEqual(tear_room(GAPS, 0), 3)
        self.assertEqual(tear_room(GAPS, 1), 3 + 3 + 1)
        self.assertEqual(tear_room(GAPS, 2), 4 + 4 + 1)
        self.assertEqual(tear_room(FAR_APART, 1), 5 + 1)
        self.assertEqual(tear_room(SAME_NUMBER, 1), 3 + 2 + 1)

    def test_against_a_plain_count(self):
        for writing in SMALL + LARGER:
            for tears in TEARS:
                room = [
                    (low, high) for low in every(writing) for high in every(writing)
                    if writing[2][low] is not None and plain_within(tears, high, low)
                ]
                self.assertEqual(tear_room(writing, tears), len(room))
                self.assertIs(type(tear_room(writing, tears)), int)

    def test_its_bound_where_tears_are_mended_and_no_number_is_read_twice(self):
        bounded = 0
        for writing in SMALL + LARGER + [summed(n, rest) for n in range(3, 9) for rest in range(n + 1)]:
            read = [number for number in writing[2] if number is not None]
            for tears in TEARS:
                if len(set(read)) == len(read) and mending(writing, tears) == ("mends",):
                    bounded += 1
                    self.assertLessEqual(tear_room(writing, tears), 2 ** writing[0])
        self.assertGreater(bounded, 50)

    def test_more_room_where_a_number_is_read_twice(self):
        self.assertEqual(mending(SAME_NUMBER, 2), ("mends",))
        self.assertGreater(tear_room(SAME_NUMBER, 2), 4)


class EightSpots(TimedCase):
    def test_in_time(self):
        writings = [
            full(8, 100, 1), mixed(8, 100, 2), full(8, 2, 3), summed(8, 0), made_writing(8, 2, (1,) * 256),
            weighed([1, 2, 4, 8, 16, 32, 64, 99], 100), unary(8), twice(8),
            made_writing(8, 2, (0,) + (None,) * 254 + (1,)),
        ]
        for writing in writings:
            for tears in (0, 1, 3, 8):
                told = self.timed(finding, writing, tears)
                self.assertIs(self.timed(right_missed, writing, tears, told), told != ("finds",))
                told = self.timed(mending, writing, tears)
                self.assertIs(self.timed(right_unsure, writing, tears, told), told != ("mends",))
                self.assertEqual(self.timed(behind, writing, tears, 255), plain_behind(writing, tears, 255))
                self.timed(tear_room, writing, tears)

    def test_eight_spots_against_the_definition(self):
        for writing in (summed(8, 0), twice(8), made_writing(8, 2, (0,) + (None,) * 254 + (1,))):
            for tears in TEARS:
                self.assertEqual(finding(writing, tears) == ("finds",), not missed(writing, tears))
                sure = all(len(plain_behind(writing, tears, cuts)) < 2 for cuts in range(256))
                self.assertEqual(mending(writing, tears) == ("mends",), sure)


class LeftAsItIs(unittest.TestCase):
    def test_the_writing(self):
        before = repr(GAPS)
        for tears in TEARS:
            finding(GAPS, tears)
            mending(GAPS, tears)
            behind(GAPS, tears, 7).clear()
            tear_room(GAPS, tears)
        self.assertEqual(repr(GAPS), before)


if __name__ == "__main__":
    unittest.main()
