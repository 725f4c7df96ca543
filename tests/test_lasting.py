"""Points 8 and 11: how long cuts last; and of point 3 that it is told with a paper, and never both."""

import itertools
import unittest

from notchledger.askings import any_number, around, by_one, one_up
from notchledger.ends import right_end
from notchledger.lasting import how_long, keep_on, lasting
from notchledger.plans import right_plan
from notchledger.writings import made_writing, nearest
from plain import (
    TimedCase, full, mixed, mixed_askings, plain_asked, plain_end, plain_lasts, plain_most, plain_plan, plain_ways,
    spots, sums,
)

KINDS = (any_number, by_one, around, one_up)
SWITCH = made_writing(3, 2, (0, 1, 1, 0, 1, 0, 0, 1))
GAPS = made_writing(3, 4, (None, 1, 1, 0, 2, None, 0, 1))
EMPTY = made_writing(3, 4, (None,) * 8)
NOTHING_ASKED = ((), (), ())


def each_row_of_two_numbers():
    return itertools.product(((), (1,)), ((), (0,)), ((), (0,), (1,), (0, 1)))


def each_table(n, k):
    return itertools.product((None, *range(k)), repeat=2 ** n)


def with_readings(n, k, readings):
    return made_writing(n, k, tuple(readings.get(cuts) for cuts in range(2 ** n)))


class Told(unittest.TestCase):
    """What is told of cuts, held against the definition and let by by the checkers."""

    def check_lasting(self, writing, askings, cuts, turns):
        told = lasting(writing, askings, cuts, turns)
        self.assertIs(type(told), tuple)
        self.assertEqual(len(told), 2)
        word, paper = told
        lasts = plain_lasts(writing, askings, cuts, turns)
        self.assertEqual(word, "lasts" if lasts else "ends", (writing, askings, cuts, turns))
        self.assertIs(right_plan(writing, askings, cuts, turns, paper), lasts)
        self.assertIs(right_end(writing, askings, cuts, turns, paper), not lasts)
        self.assertIs(plain_plan(writing, askings, cuts, turns, paper), lasts)
        self.assertIs(plain_end(writing, askings, cuts, turns, paper), not lasts)
        self.assertEqual(lasting(writing, askings, cuts, turns), told)

    def check_how_long(self, writing, askings, cuts):
        told = how_long(writing, askings, cuts)
        self.assertIs(type(told), tuple)
        turns, plan, end = told
        most = plain_most(writing, askings, cuts)
        if most == writing[0] + 1:
            self.assertIsNone(turns)
            self.assertIsNone(end)
            self.assertIs(right_plan(writing, askings, cuts, most, plan), True)
        else:
            self.assertEqual(repr(turns), repr(most))
            self.assertIs(right_plan(writing, askings, cuts, most, plan), True)
            self.assertIs(right_end(writing, askings, cuts, most + 1, end), True)
        self.assertEqual(how_long(writing, askings, cuts), told)

    def check_keep_on(self, writing, askings, cuts):
        for number in range(writing[1]):
            ranked = [
                (-plain_most(writing, askings, up), len(spots(up) - spots(cuts)), up)
                for up in plain_ways(writing, cuts, number)
            ]
            best = min(ranked)[2] if ranked else None
            self.assertEqual(repr(keep_on(writing, askings, cuts, number)), repr(best), (writing, askings, cuts, number))

    def check(self, writing, askings, cuts, most_turns):
        for turns in range(most_turns + 1):
            self.check_lasting(writing, askings, cuts, turns)
        self.check_how_long(writing, askings, cuts)
        self.check_keep_on(writing, askings, cuts)

    def test_every_writing_of_one_spot(self):
        for table in each_table(1, 2):
            for askings in each_row_of_two_numbers():
                for cuts in range(2):
                    self.check((1, 2, table), askings, cuts, 3)

    def test_every_writing_of_two_spots(self):
        for table in each_table(2, 2):
            for askings in (any_number(2), one_up(2), ((1,), (0,), ()), ((), (0,), (1,)), NOTHING_ASKED):
                for cuts in (0, 1, 3):
                    self.check((2, 2, table), askings, cuts, 4)

    def test_mixed_writings_from_all_cuts(self):
        for seed in range(12):
            n, k = 2 + seed % 3, 2 + seed % 4
            for writing in (mixed(n, k, seed), full(n, k, seed)):
                for askings in (any_number(k), by_one(k), around(k), one_up(k), mixed_askings(k, seed)):
                    for cuts in range(2 ** n):
                        self.check(writing, askings, cuts, n + 2)

    def test_sums_of_weights(self):
        for weights, k in (([1, 1, 1, 1], 2), ([1, 2, 1, 2], 3), ([1, 2, 3, 1, 2], 4), ([0, 1], 3), ([1, 3, 4, 2], 5)):
            for kind in KINDS:
                for cuts in (0, 1, 2, 2 ** len(weights) - 1):
                    self.check(sums(weights, k), kind(k), cuts, len(weights) + 2)

    def test_up_to_twelve_turns(self):
        for writing in (SWITCH, sums([1, 2, 1, 2], 3), mixed(4, 3, 5)):
            for kind in KINDS:
                self.check(writing, kind(writing[1]), 0, 12)
        for cuts in range(8):
            self.check(GAPS, ((), (), (), (), (0, 1, 2)), cuts, 12)
            self.check(GAPS, ((), (), (1,), (), (0, 1)), cuts, 12)
            self.check(GAPS, any_number(4), cuts, 12)
            self.check(EMPTY, any_number(4), cuts, 12)
            self.check(EMPTY, ((1,), (0,), (0,), (0,), ()), cuts, 12)

    def test_five_spots(self):
        for k in (2, 3, 4):
            for askings in (any_number(k), around(k), mixed_askings(k, k)):
                for writing in (full(5, k, k), mixed(5, k, k)):
                    for cuts in (0, 16, 31):
                        self.check(writing, askings, cuts, 7)


class Named(unittest.TestCase):
    def test_no_turns_last_always(self):
        for writing in (SWITCH, GAPS, EMPTY):
            for cuts in range(8):
                self.assertEqual(lasting(writing, any_number(writing[1]), cuts, 0), ("lasts", ()))

    def test_each_turn_takes_a_cut(self):
        self.assertEqual(how_long(SWITCH, any_number(2), 7), (0, (), ((1, 7, 0),)))
        for cuts in range(8):
            self.assertEqual(how_long(SWITCH, any_number(2), cuts)[0], 3 - len(spots(cuts)))

    def test_for_ever_where_nothing_may_be_asked(self):
        for cuts in range(8):
            paper = (((cuts, ()),), (), (), ())
            self.assertEqual(how_long(SWITCH, NOTHING_ASKED, cuts), (None, paper, None))
            self.assertEqual(lasting(SWITCH, NOTHING_ASKED, cuts, 12), ("lasts", paper + ((),) * 8))

    def test_for_ever_once_the_last_number_stands(self):
        writing = made_writing(2, 3, (0, 1, None, 2))
        turns, plan, end = how_long(writing, one_up(3), 0)
        self.assertEqual((turns, plan, end), (None, (((0, (1,)),), ((1, (3,)),), ((3, ()),)), None))
        self.assertEqual(lasting(writing, one_up(3), 0, 12)[1], plan + ((),) * 9)
        self.assertEqual(how_long(writing, any_number(3), 0)[0], 1)

    def test_all_that_is_asked_counts_and_not_the_first_alone(self):
        writing = made_writing(2, 3, (0, 1, 1, 0))
        self.assertEqual(how_long(writing, ((1,), (0,), (), ()), 0)[0], 2)
        self.assertEqual(how_long(writing, ((1, 2), (0,), (), ()), 0)[0], 0)
        self.assertEqual(how_long(writing, ((1,), (0, 2), (), ()), 0)[0], 1)

    def test_cuts_that_read_nothing_are_asked_by_the_last_row(self):
        writing = made_writing(2, 2, (None, 0, 1, None))
        self.assertEqual(how_long(writing, ((1,), (0,), (0, 1)), 0)[0], 1)
        self.assertEqual(how_long(writing, ((1,), (0,), ()), 0)[0], None)
        self.assertEqual(how_long(writing, ((), (), (0, 1)), 0)[0], None)
        self.assertEqual(how_long(writing, ((), (), (0, 1)), 3)[0], 0)

    def test_keep_on_longest_ahead_of_nearest(self):
        # 1 and 6 read 1; above 6 stands 14, which reads 0 and doesn't hold 1.
        writing = with_readings(4, 2, {0: 0, 1: 1, 6: 1, 14: 0})
        self.assertEqual([how_long(writing, any_number(2), cuts)[0] for cuts in (1, 6)], [0, 1])
        self.assertEqual(nearest(writing, 0, 1), 1)
        self.assertEqual(keep_on(writing, any_number(2), 0, 1), 6)

    def test_keep_on_for_ever_is_longest(self):
        # 0 asks nothing. From 1 on 3 is the last; 12 comes by 28 to 30, which reads 0.
        writing = with_readings(5, 3, {1: 1, 3: 2, 12: 1, 28: 2, 30: 0})
        askings = ((), (2,), (0,), (1,))
        self.assertEqual([how_long(writing, askings, cuts)[0] for cuts in (1, 3, 12, 28, 30)], [1, 0, None, None, None])
        self.assertEqual(keep_on(writing, askings, 0, 1), 12)
        self.assertEqual(keep_on(writing, askings, 1, 1), 1)
        self.assertEqual(keep_on(writing, askings, 0, 2), 28)

    def test_keep_on_by_the_askings(self):
        # Where nothing may be asked all last for ever, so the nearest is best.
        writing = with_readings(4, 2, {0: 0, 1: 1, 6: 1, 14: 0})
        self.assertEqual(keep_on(writing, NOTHING_ASKED, 0, 1), 1)

    def test_keep_on_of_several_alike_the_nearest_then_the_least(self):
        writing = made_writing(3, 2, (None, None, None, 1, 1, 1, None, 1))
        self.assertEqual(keep_on(writing, any_number(2), 0, 1), 4)
        self.assertEqual(keep_on(writing, any_number(2), 1, 1), 3)
        self.assertEqual(keep_on(writing, any_number(2), 2, 1), 3)
        self.assertEqual(keep_on(writing, any_number(2), 6, 1), 7)

    def test_keep_on_may_be_the_cuts_themselves(self):
        self.assertEqual(keep_on(SWITCH, any_number(2), 0, 0), 0)
        self.assertEqual(keep_on(SWITCH, any_number(2), 5, 0), 5)
        self.assertEqual(keep_on(SWITCH, any_number(2), 7, 1), 7)

    def test_keep_on_where_there_is_none(self):
        self.assertIsNone(keep_on(SWITCH, any_number(2), 7, 0))
        self.assertIsNone(keep_on(GAPS, any_number(4), 0, 3))
        self.assertIsNone(keep_on(EMPTY, any_number(4), 0, 0))

    def test_what_stood_may_be_written_again_and_again_by_keep_on(self):
        for seed in range(20):
            writing, askings = full(5, 2, seed), any_number(2)
            turns = how_long(writing, askings, 0)[0]
            cuts = 0
            for left in range(turns, 0, -1):
                number = plain_asked(writing, askings, cuts)[0]
                cuts = keep_on(writing, askings, cuts, number)
                self.assertEqual(writing[2][cuts], number)
                self.assertTrue(plain_lasts(writing, askings, cuts, left - 1))

    def test_somewhat_beyond_is_no_error(self):
        for cuts in (8, 9, -1):
            self.assertEqual(lasting(SWITCH, any_number(2), cuts, 1)[0], "ends")
            self.assertEqual(how_long(SWITCH, any_number(2), cuts)[0], 0)
            self.assertIsNone(keep_on(SWITCH, any_number(2), cuts, 0))
            self.assertIs(right_plan(SWITCH, any_number(2), cuts, 2, ()), False)
            self.assertIs(right_end(SWITCH, any_number(2), cuts, 2, ()), False)
        for turns in (13, 20):
            self.assertEqual(lasting(SWITCH, any_number(2), 0, turns)[0], "ends")
            self.assertEqual(lasting(SWITCH, NOTHING_ASKED, 0, turns)[0], "lasts")
        self.assertEqual(lasting(SWITCH, any_number(2), 0, -1), ("lasts", ()))
        self.assertIsNone(keep_on(SWITCH, any_number(2), 0, 2))


class WhoeverMadeIt(unittest.TestCase):
    """All papers of one spot and two numbers, right or not: some plan or some end is let by, never one of each."""

    def plans(self, turns):
        answers = [row for size in range(3) for row in itertools.product((0, 1), repeat=size)]
        rows = [((0, one),) for one in answers] + [((1, one),) for one in answers]
        rows += [((0, one), (1, other)) for one in answers for other in answers]
        for paper in itertools.product([()] + rows, repeat=turns):
            yield paper

    def ends(self, turns):
        places = [(left, cuts) for left in range(1, turns + 1) for cuts in (0, 1)]
        for numbers in itertools.product((None, 0, 1), repeat=len(places)):
            yield tuple(place + (number,) for place, number in zip(places, numbers) if number is not None)

    def test_every_paper(self):
        for turns in (0, 1, 2):
            plans, ends = list(self.plans(turns)), list(self.ends(turns))
            for table in [(0, 1), (None, 1), (1, None), (0, 0), (1, 0)][turns:]:
                for askings in list(each_row_of_two_numbers())[turns::1 + 2 * turns]:
                    writing = (1, 2, table)
                    lasts = plain_lasts(writing, askings, 0, turns)
                    granted = [paper for paper in plans if right_plan(writing, askings, 0, turns, paper)]
                    barred = [paper for paper in ends if right_end(writing, askings, 0, turns, paper)]
                    self.assertEqual((bool(granted), bool(barred)), (lasts, not lasts))


class EightSpots(TimedCase):
    def check(self, writing, askings, cuts):
        word, paper = self.timed(lasting, writing, askings, cuts, 12)
        self.assertIs(self.timed(right_plan, writing, askings, cuts, 12, paper), word == "lasts")
        self.assertIs(self.timed(right_end, writing, askings, cuts, 12, paper), word == "ends")
        turns, plan, end = self.timed(how_long, writing, askings, cuts)
        self.assertEqual(turns is None, word == "lasts")
        if turns is None:
            self.assertIs(self.timed(right_plan, writing, askings, cuts, 9, plan), True)
        else:
            self.assertIs(self.timed(right_plan, writing, askings, cuts, turns, plan), True)
            self.assertIs(self.timed(right_end, writing, askings, cuts, turns + 1, end), True)
        self.timed(keep_on, writing, askings, cuts, writing[1] - 1)

    def test_twelve_turns_in_time(self):
        for k in (2, 3, 8, 100):
            for kind in KINDS:
                self.check(full(8, k, k), kind(k), 0)
                self.check(mixed(8, k, k), kind(k), 0)
        self.check(sums([1] * 8, 2), any_number(2), 0)
        self.check(sums([1, 1, 1, 1, 2, 2, 2, 2], 3), any_number(3), 0)
        self.check(sums([1, 2, 4, 8, 16, 32, 64, 99], 100), by_one(100), 0)

    def test_as_long_as_there_are_spots(self):
        self.assertEqual(how_long(sums([1] * 8, 2), any_number(2), 0)[0], 8)
        self.assertEqual(how_long(sums([0] * 8, 2), any_number(2), 0)[0], 0)
        for weights, k in (([1, 1, 1, 1, 2, 2, 2, 2], 3), ([1, 2, 3, 1, 2, 3, 1, 2], 4)):
            writing = sums(weights, k)
            self.assertEqual(how_long(writing, any_number(k), 0)[0], plain_most(writing, any_number(k), 0))


class LeftAsItIs(unittest.TestCase):
    def test_what_was_handed_in(self):
        writing, askings = mixed(4, 3, 8), mixed_askings(3, 2)
        before = repr((writing, askings))
        for cuts in range(16):
            lasting(writing, askings, cuts, 5)
            how_long(writing, askings, cuts)
            keep_on(writing, askings, cuts, 1)
        self.assertEqual(repr((writing, askings)), before)

    def test_other_questions_between_change_no_answer(self):
        questions = [(mixed(3, 3, seed), mixed_askings(3, seed), seed % 8, seed % 5) for seed in range(40)]
        told = [lasting(*question) for question in questions]
        self.assertEqual([lasting(*question) for question in reversed(questions)], told[::-1])


if __name__ == "__main__":
    unittest.main()
