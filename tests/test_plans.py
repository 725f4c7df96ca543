"""Point 9: plans."""

import copy
import unittest

from notchledger.askings import any_number, around, by_one, one_up
from notchledger.lasting import lasting
from notchledger.plans import right_plan
from notchledger.writings import made_writing
from plain import WHATEVER, bent, plain_asked, plain_lasts, plain_plan, plain_ways, small_questions, sums

# Two numbers by turns: each further cut reads the other one.
SWITCH = made_writing(3, 2, (0, 1, 1, 0, 1, 0, 0, 1))
ANY = any_number(2)
PLAN = (((0, (1,)),), ((1, (3,)),), ((3, (7,)),))
# Cuts that read nothing; what stands while nothing is read may be asked by the last row alone.
GAPS = made_writing(2, 2, (None, 0, 1, None))
QUIET = ((), (), (0, 1))


class Right(unittest.TestCase):
    def right(self, writing, askings, cuts, turns, paper):
        self.assertIs(plain_plan(writing, askings, cuts, turns, paper), True)
        self.assertIs(right_plan(writing, askings, cuts, turns, paper), True)

    def test_each_number_of_turns(self):
        self.right(SWITCH, ANY, 0, 3, PLAN)
        self.right(SWITCH, ANY, 0, 2, PLAN[:2])
        self.right(SWITCH, ANY, 0, 1, PLAN[:1])
        self.right(SWITCH, ANY, 1, 2, PLAN[1:])
        self.right(SWITCH, ANY, 3, 1, PLAN[2:])

    def test_no_turns(self):
        for cuts in range(8):
            self.right(SWITCH, ANY, cuts, 0, ())
        for cuts in range(4):
            self.right(GAPS, QUIET, cuts, 0, ())

    def test_another_answer(self):
        self.right(SWITCH, ANY, 0, 2, (((0, (4,)),), ((4, (5,)),)))
        self.right(SWITCH, ANY, 0, 1, (((0, (7,)),),))

    def test_others_besides_in_later_rows(self):
        self.right(SWITCH, ANY, 0, 2, (((0, (1,)),), ((1, (3,)), (2, (6,)))))
        self.right(SWITCH, ANY, 0, 2, (((0, (1,)),), ((0, (7,)), (1, (3,)), (6, (7,)))))

    def test_where_nothing_may_be_asked(self):
        self.right(GAPS, QUIET, 0, 1, (((0, (1, 2)),),))
        self.right(GAPS, QUIET, 0, 2, (((0, (1, 2)),), ((1, ()), (2, ()))))
        self.right(GAPS, QUIET, 1, 1, (((1, ()),),))

    def test_later_rows_may_be_empty(self):
        self.right(GAPS, QUIET, 1, 12, (((1, ()),),) + ((),) * 11)
        self.right(GAPS, QUIET, 0, 12, (((0, (1, 2)),), ((1, ()), (2, ()))) + ((),) * 10)

    def test_rows_that_nobody_needs(self):
        self.right(GAPS, QUIET, 1, 3, (((1, ()),), (), ((0, (1, 2)),)))
        self.right(GAPS, QUIET, 1, 4, (((1, ()),), (), ((0, (1, 2)),), ((1, ()), (2, ()))))

    def test_twelve_turns_and_somewhat_more(self):
        for turns in (11, 12, 13, 20):
            self.right(SWITCH, ((), (), ()), 5, turns, (((5, ()),),) + ((),) * (turns - 1))


class Wrong(unittest.TestCase):
    def wrong(self, writing, askings, cuts, turns, paper):
        self.assertIs(plain_plan(writing, askings, cuts, turns, paper), False)
        self.assertIs(right_plan(writing, askings, cuts, turns, paper), False, repr(paper)[:300])

    def test_a_turn_more_and_a_turn_less(self):
        self.wrong(SWITCH, ANY, 0, 2, PLAN)
        self.wrong(SWITCH, ANY, 0, 4, PLAN)
        self.wrong(SWITCH, ANY, 0, 0, PLAN)
        self.wrong(SWITCH, ANY, 0, 4, PLAN + ((),))
        self.wrong(SWITCH, ANY, 0, 0, ((),))

    def test_the_empty_tuple(self):
        for turns in range(1, 13):
            self.wrong(SWITCH, ANY, 0, turns, ())
            self.wrong(SWITCH, ((), (), ()), 0, turns, ())
            self.wrong(SWITCH, ((), (), ()), 0, turns, ((),) * turns)

    def test_other_cuts(self):
        for cuts in range(1, 8):
            self.wrong(SWITCH, ANY, cuts, 3, PLAN)

    def test_the_first_row_has_these_cuts_alone(self):
        self.wrong(SWITCH, ANY, 0, 1, (((0, (1,)), (1, (3,))),))
        self.wrong(SWITCH, ANY, 1, 1, (((0, (1,)), (1, (3,))),))
        self.wrong(SWITCH, ANY, 0, 1, ((),))

    def test_an_answer_that_is_no_way_up(self):
        self.wrong(SWITCH, ANY, 0, 1, (((0, (3,)),),))
        self.wrong(SWITCH, ANY, 0, 1, (((0, (0,)),),))
        self.wrong(SWITCH, ANY, 1, 1, (((1, (6,)),),))
        self.wrong(SWITCH, ANY, 1, 1, (((1, (0,)),),))
        self.wrong(GAPS, ANY, 1, 1, (((1, (3,)),),))

    def test_answers_out_of_the_order_of_the_numbers(self):
        self.wrong(GAPS, QUIET, 0, 1, (((0, (2, 1)),),))

    def test_an_answer_more_and_one_fewer(self):
        self.wrong(GAPS, QUIET, 0, 1, (((0, (1,)),),))
        self.wrong(GAPS, QUIET, 0, 1, (((0, (1, 2, 2)),),))
        self.wrong(GAPS, QUIET, 0, 1, (((0, ()),),))
        self.wrong(GAPS, QUIET, 1, 1, (((1, (1,)),),))

    def test_an_answer_that_does_not_stand_in_the_next_row(self):
        self.wrong(SWITCH, ANY, 0, 2, (((0, (1,)),), ((2, (3,)),)))
        self.wrong(SWITCH, ANY, 0, 2, (((0, (1,)),), ()))
        self.wrong(GAPS, QUIET, 0, 2, (((0, (1, 2)),), ((1, ()),)))
        self.wrong(GAPS, QUIET, 0, 2, (((0, (1, 2)),), ((2, ()),)))
        self.wrong(GAPS, QUIET, 0, 3, (((0, (1, 2)),), (), ((1, ()), (2, ()))))

    def test_others_besides_must_be_right_too(self):
        self.wrong(SWITCH, ANY, 0, 2, (((0, (1,)),), ((1, (3,)), (2, (5,)))))
        self.wrong(SWITCH, ANY, 0, 3, (((0, (1,)),), ((1, (3,)), (2, (6,))), ((3, (7,)),)))
        self.wrong(GAPS, QUIET, 1, 3, (((1, ()),), (), ((0, (1, 1)),)))
        self.wrong(GAPS, QUIET, 1, 3, (((1, ()),), ((0, (1, 2)),), ()))

    def test_out_of_order_and_twice(self):
        self.wrong(SWITCH, ANY, 0, 2, (((0, (1,)),), ((2, (6,)), (1, (3,)))))
        self.wrong(SWITCH, ANY, 0, 2, (((0, (1,)),), ((1, (3,)), (1, (3,)))))
        self.wrong(SWITCH, ANY, 0, 2, (((0, (1,)),), ((1, (3,)), (1, (5,)))))

    def test_cuts_beyond_the_spots(self):
        quiet = ((), (), ())
        for beyond in (8, 9, 256, 10 ** 59, -1, -8):
            self.wrong(SWITCH, quiet, 0, 2, (((0, ()),), ((beyond, ()),)))
        self.wrong(SWITCH, ANY, 0, 1, (((0, (9,)),),))
        self.wrong(SWITCH, ANY, 0, 1, (((0, (-1,)),),))

    def test_true_for_1_and_false_for_0(self):
        self.wrong(SWITCH, ANY, 0, 1, (((0, (True,)),),))
        self.wrong(SWITCH, ANY, 0, 1, (((False, (1,)),),))
        self.wrong(SWITCH, ANY, 1, 1, (((True, (3,)),),))
        self.wrong(SWITCH, ANY, 0, 2, (((0, (1,)),), ((True, (3,)),)))

    def test_a_list_for_a_tuple(self):
        self.wrong(SWITCH, ANY, 0, 3, list(PLAN))
        self.wrong(SWITCH, ANY, 0, 0, [])
        self.wrong(SWITCH, ANY, 0, 1, ([(0, (1,))],))
        self.wrong(SWITCH, ANY, 0, 1, (([0, (1,)],),))
        self.wrong(SWITCH, ANY, 0, 1, (((0, [1]),),))
        self.wrong(GAPS, QUIET, 1, 1, (((1, []),),))
        self.wrong(GAPS, QUIET, 1, 2, (((1, ()),), []))

    def test_whatever_it_is(self):
        for thing in WHATEVER:
            for turns in (0, 1, 2, 12):
                plain = plain_plan(SWITCH, ANY, 0, turns, thing)
                self.assertIs(right_plan(SWITCH, ANY, 0, turns, thing), plain, repr(thing)[:100])
            if thing != ():
                self.wrong(SWITCH, ANY, 0, 1, (thing,))
                self.wrong(SWITCH, ANY, 0, 1, ((thing,),))
                self.wrong(GAPS, QUIET, 1, 1, (((1, thing),),))
            self.wrong(SWITCH, ANY, 0, 1, (((thing, (1,)),),) if thing != 0 or thing is False else None)
            self.wrong(SWITCH, ANY, 0, 1, (((0, (thing,)),),) if thing != 1 or thing is True else None)

    def test_whatever_it_is_stays_as_it_is(self):
        for paper in ([[(0, [1])]], ([(0, [1])], [[]]), (((0, [1]),),), ((([0], (1,)),),)):
            before = copy.deepcopy(paper)
            self.wrong(SWITCH, ANY, 0, 1, paper)
            self.assertEqual(repr(paper), repr(before))


class Bent(unittest.TestCase):
    def check(self, writing, askings, cuts, turns):
        word, paper = lasting(writing, askings, cuts, turns)
        if word == "lasts":
            for other in bent(paper):
                plain = plain_plan(writing, askings, cuts, turns, other)
                self.assertIs(right_plan(writing, askings, cuts, turns, other), plain, (writing, askings, other))
                self.assertFalse(plain and not plain_lasts(writing, askings, cuts, turns))
        else:
            # The longest plan there is, and some rows more, is none for these turns.
            shorter = max(less for less in range(turns) if plain_lasts(writing, askings, cuts, less))
            rows = lasting(writing, askings, cuts, shorter)[1]
            for more in (rows, rows + ((),) * (turns - shorter), rows[:1] + rows, rows[:1] * turns, (rows[-1:] * turns)):
                self.assertIs(right_plan(writing, askings, cuts, turns, more), False)

    def test_small_writings(self):
        for question in small_questions():
            self.check(*question)

    def test_sums_of_weights(self):
        for writing in (sums([1, 2, 1, 2], 3), sums([1, 2, 3], 4), sums([1, 1, 1, 1, 1], 2)):
            for askings in (any_number(writing[1]), around(writing[1]), one_up(writing[1])):
                for turns in (1, 2, 3, 12):
                    self.check(writing, askings, 0, turns)

    def test_every_entry_that_could_stand_besides(self):
        writing, askings = sums([1, 2, 1], 3), by_one(3)
        paper = lasting(writing, askings, 0, 2)[1]
        self.assertTrue(paper)
        for cuts in range(8):
            asked = plain_asked(writing, askings, cuts)
            for answers in ([plain_ways(writing, cuts, number) for number in asked], [range(8)] * len(asked)):
                entry = (cuts, tuple(ways[-1] if ways else 7 for ways in answers))
                other = paper[:1] + (tuple(sorted(paper[1] + (entry,))),)
                plain = plain_plan(writing, askings, 0, 2, other)
                self.assertIs(right_plan(writing, askings, 0, 2, other), plain)


if __name__ == "__main__":
    unittest.main()
