"""Point 10: ends."""

import copy
import unittest

from notchledger.askings import any_number, around, one_up
from notchledger.ends import right_end
from notchledger.lasting import lasting
from notchledger.writings import made_writing
from plain import WHATEVER, bent, plain_end, plain_lasts, small_questions, sums

# Two numbers by turns: each further cut reads the other one, so all spots cut is the end.
SWITCH = made_writing(2, 2, (0, 1, 1, 0))
ANY = any_number(2)
END = ((1, 3, 1), (2, 1, 0), (2, 2, 0), (3, 0, 1))
# While nothing stands 0 has ways up, 1 has none.
GAPS = made_writing(2, 2, (None, 0, None, 0))


class Right(unittest.TestCase):
    def right(self, writing, askings, cuts, turns, paper):
        self.assertIs(plain_end(writing, askings, cuts, turns, paper), True)
        self.assertIs(right_end(writing, askings, cuts, turns, paper), True)

    def test_each_number_of_turns(self):
        self.right(SWITCH, ANY, 3, 1, ((1, 3, 1),))
        self.right(SWITCH, ANY, 1, 2, ((1, 3, 1), (2, 1, 0)))
        self.right(SWITCH, ANY, 0, 3, END)

    def test_no_way_up_at_all_is_an_end_of_any_turns(self):
        for turns in range(1, 13):
            self.right(SWITCH, ANY, 3, turns, ((turns, 3, 1),))
            self.right(GAPS, ANY, 0, turns, ((turns, 0, 1),))
            self.right(GAPS, ANY, 2, turns, ((turns, 2, 1),))

    def test_others_besides(self):
        self.right(SWITCH, ANY, 1, 2, ((1, 3, 1), (2, 1, 0), (2, 2, 0)))
        self.right(SWITCH, ANY, 1, 3, ((1, 3, 1), (2, 1, 0), (2, 3, 1), (3, 1, 0)))
        self.right(SWITCH, ANY, 1, 2, END[:3])

    def test_the_least_of_the_ways_up_is_enough(self):
        writing = made_writing(2, 2, (0, 1, 1, 1))
        self.right(writing, ANY, 0, 2, ((1, 1, 0), (1, 2, 0), (2, 0, 1)))
        self.right(writing, ANY, 0, 2, ((1, 1, 0), (1, 2, 0), (1, 3, 0), (2, 0, 1)))

    def test_while_nothing_stands(self):
        writing = made_writing(2, 2, (None, 0, 0, None))
        self.right(writing, ((), (), (0,)), 3, 1, ((1, 3, 0),))
        self.right(writing, any_number(2), 0, 2, ((1, 1, 1), (1, 2, 1), (2, 0, 0)))


class Wrong(unittest.TestCase):
    def wrong(self, writing, askings, cuts, turns, paper):
        self.assertIs(plain_end(writing, askings, cuts, turns, paper), False)
        self.assertIs(right_end(writing, askings, cuts, turns, paper), False, repr(paper)[:300])

    def test_no_turns(self):
        for cuts in range(4):
            for paper in ((), END, ((0, cuts, 1),), ((0, cuts, 0),), ((1, 3, 1),)):
                self.wrong(SWITCH, ANY, cuts, 0, paper)

    def test_the_empty_tuple(self):
        for turns in range(13):
            self.wrong(SWITCH, ANY, 0, turns, ())
            self.wrong(GAPS, ANY, 0, turns, ())

    def test_a_turn_more_and_a_turn_less(self):
        self.wrong(SWITCH, ANY, 0, 4, END)
        self.wrong(SWITCH, ANY, 0, 2, END)
        self.wrong(SWITCH, ANY, 3, 2, ((1, 3, 1),))

    def test_other_cuts(self):
        self.wrong(SWITCH, ANY, 1, 3, END)
        self.wrong(SWITCH, ANY, 3, 3, END)
        self.wrong(SWITCH, ANY, 0, 3, END[:-1])
        self.wrong(SWITCH, ANY, 2, 2, ((1, 3, 1), (2, 1, 0)))

    def test_a_number_that_may_not_be_asked(self):
        self.wrong(SWITCH, ANY, 3, 1, ((1, 3, 0),))
        self.wrong(SWITCH, ANY, 3, 1, ((1, 3, 2),))
        self.wrong(SWITCH, ANY, 3, 1, ((1, 3, -1),))
        self.wrong(SWITCH, ((), (), (0, 1)), 3, 1, ((1, 3, 1),))
        self.wrong(GAPS, ((1,), (0,), (0,)), 0, 1, ((1, 0, 1),))

    def test_a_way_up_that_stays(self):
        self.wrong(SWITCH, ANY, 0, 1, ((1, 0, 1),))
        self.wrong(SWITCH, ANY, 0, 3, ((1, 3, 1), (2, 1, 0), (3, 0, 1)))
        self.wrong(SWITCH, ANY, 0, 3, ((2, 1, 0), (2, 2, 0), (3, 0, 1)))
        self.wrong(SWITCH, ANY, 1, 2, ((2, 1, 0),))

    def test_the_closing_tuple_has_one_turn_less(self):
        self.wrong(SWITCH, ANY, 1, 3, ((1, 3, 1), (3, 1, 0)))
        self.wrong(SWITCH, ANY, 1, 2, ((2, 1, 0), (2, 3, 1)))

    def test_the_closing_tuple_holds_is_held_and_reads_the_number(self):
        # From 1 the ways up to 0 are 3, 5 and 7.
        writing = made_writing(3, 2, (0, 1, 0, 0, 0, 0, 0, 0))
        closed = ((1, 3, 1), (1, 5, 1), (2, 1, 0))
        self.assertIs(right_end(writing, ANY, 1, 2, closed), True)
        # 2 and 4 are held by these and read the number, but don't hold 1.
        self.wrong(writing, ANY, 1, 2, ((1, 2, 1), (1, 4, 1), (2, 1, 0)))
        # 7 isn't held by 3 and 5.
        self.wrong(writing, ANY, 1, 2, ((1, 7, 1), (2, 1, 0)))
        # 3 isn't held by 5.
        self.wrong(writing, ANY, 1, 2, ((1, 3, 1), (1, 7, 1), (2, 1, 0)))
        # 1 holds 0 and is held by 3, the only way up to 1, but reads another number; 3 lasts for ever.
        other = made_writing(2, 3, (0, 2, None, 1))
        self.wrong(other, ((1,), (), (0,), ()), 0, 2, ((1, 1, 0), (2, 0, 1)))
        self.assertIs(right_end(other, ((1,), (0,), (0,), ()), 0, 2, ((1, 3, 0), (2, 0, 1))), True)

    def test_others_besides_must_be_right_too(self):
        self.wrong(SWITCH, ANY, 1, 2, ((1, 0, 1), (1, 3, 1), (2, 1, 0)))
        self.wrong(SWITCH, ANY, 3, 1, ((1, 2, 0), (1, 3, 1)))
        self.wrong(SWITCH, ANY, 3, 1, ((1, 3, 1), (2, 3, 1)))

    def test_out_of_order_and_twice(self):
        self.wrong(SWITCH, ANY, 0, 3, END[::-1])
        self.wrong(SWITCH, ANY, 0, 3, (END[0], END[2], END[1], END[3]))
        self.wrong(SWITCH, ANY, 0, 3, END[:1] + END)
        self.wrong(SWITCH, ANY, 0, 3, END + END[-1:])
        three = made_writing(1, 3, (0, 0))
        self.assertIs(right_end(three, any_number(3), 0, 1, ((1, 0, 1),)), True)
        self.wrong(three, any_number(3), 0, 1, ((1, 0, 1), (1, 0, 2)))

    def test_turns_out_of_bounds(self):
        self.wrong(SWITCH, ANY, 3, 2, ((0, 3, 1), (2, 3, 1)))
        self.wrong(SWITCH, ANY, 3, 2, ((-1, 3, 1), (2, 3, 1)))
        self.wrong(SWITCH, ANY, 3, 2, ((2, 3, 1), (3, 3, 1)))
        # A tuple of no turns closes nothing, not even where it is right in all else.
        self.wrong(SWITCH, ANY, 1, 1, ((0, 3, 1), (1, 1, 0)))

    def test_cuts_beyond_the_spots(self):
        quiet = ((1,), (0,), (0,))
        for beyond in (4, 7, 256, 10 ** 59):
            self.wrong(SWITCH, quiet, 3, 1, ((1, 3, 1), (1, beyond, 0)))
        for beyond in (-1, -4):
            self.wrong(SWITCH, quiet, 3, 1, ((1, beyond, 0), (1, 3, 1)))

    def test_true_for_1_and_false_for_0(self):
        self.wrong(SWITCH, ANY, 3, 1, ((True, 3, 1),))
        self.wrong(SWITCH, ANY, 3, 1, ((1, 3, True),))
        self.wrong(SWITCH, ANY, 1, 2, ((1, 3, 1), (2, True, 0)))
        self.wrong(SWITCH, ANY, 1, 2, ((1, 3, 1), (2, 1, False)))
        self.wrong(GAPS, ANY, 0, 1, ((1, False, 1),))

    def test_a_list_for_a_tuple(self):
        self.wrong(SWITCH, ANY, 0, 3, list(END))
        self.wrong(SWITCH, ANY, 3, 1, ([1, 3, 1],))
        self.wrong(SWITCH, ANY, 3, 1, [[1, 3, 1]])

    def test_entries_longer_and_shorter(self):
        self.wrong(SWITCH, ANY, 3, 1, ((1, 3),))
        self.wrong(SWITCH, ANY, 3, 1, ((1, 3, 1, 1),))
        self.wrong(SWITCH, ANY, 3, 1, ((1, 3, 1), ()))
        self.wrong(SWITCH, ANY, 3, 1, (1, 3, 1))

    def test_whatever_it_is(self):
        for thing in WHATEVER:
            for turns in (0, 1, 2, 12):
                self.wrong(SWITCH, ANY, 0, turns, thing)
                self.wrong(SWITCH, ANY, 0, turns, (thing,))
                for entry in ((thing, 3, 1), (1, thing, 1), (1, 3, thing)):
                    plain = plain_end(SWITCH, ANY, 3, turns, (entry,))
                    self.assertIs(right_end(SWITCH, ANY, 3, turns, (entry,)), plain, repr(entry)[:100])

    def test_whatever_it_is_stays_as_it_is(self):
        for paper in ([[1, 3, 1]], ([1, 3, 1],), ((1, [3], 1),), ((1, 3, [1]),), (([1], 3, 1),)):
            before = copy.deepcopy(paper)
            self.wrong(SWITCH, ANY, 3, 1, paper)
            self.assertEqual(repr(paper), repr(before))


class Bent(unittest.TestCase):
    def check(self, writing, askings, cuts, turns):
        word, paper = lasting(writing, askings, cuts, turns)
        if word == "ends":
            for other in bent(paper):
                plain = plain_end(writing, askings, cuts, turns, other)
                self.assertIs(right_end(writing, askings, cuts, turns, other), plain, (writing, askings, other))
        for number in range(writing[1]):
            other = ((turns, cuts, number),)
            plain = plain_end(writing, askings, cuts, turns, other)
            self.assertIs(right_end(writing, askings, cuts, turns, other), plain)
            self.assertFalse(plain and plain_lasts(writing, askings, cuts, turns))

    def test_small_writings(self):
        for question in small_questions():
            self.check(*question)

    def test_sums_of_weights(self):
        for writing in (sums([1, 2, 1], 3), sums([1, 2, 3], 4), sums([1, 1, 1], 2)):
            for askings in (any_number(writing[1]), around(writing[1]), one_up(writing[1])):
                for turns in (1, 2, 3, 4, 12):
                    self.check(writing, askings, 0, turns)


if __name__ == "__main__":
    unittest.main()
