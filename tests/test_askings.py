"""Point 7: askings."""

import unittest

from notchledger.askings import any_number, around, by_one, made_askings, one_up
from notchledger.errors import NoAskings
from plain import FAR, NO_NUMBERS, WHATEVER, deep, mixed_askings

KS = list(range(2, 30)) + [99, 100]


def as_rows(askings):
    """For each number, and for None, the numbers that may be asked."""
    rows = {number: list(row) for number, row in enumerate(askings[:-1])}
    rows[None] = list(askings[-1])
    return rows


class Granted(unittest.TestCase):
    def granted(self, k, rows):
        told = made_askings(k, rows)
        self.assertEqual(repr(told), repr(rows))
        self.assertIs(type(told), tuple)

    def test_two_and_a_hundred_numbers(self):
        self.granted(2, ((1,), (0,), (0, 1)))
        self.granted(100, ((),) * 101)
        self.granted(100, ((),) * 100 + (tuple(range(100)),))
        self.granted(100, (tuple(range(1, 100)),) + ((0,),) * 99 + ((),))

    def test_rows_may_be_empty(self):
        for k in KS:
            self.granted(k, ((),) * (k + 1))
        self.granted(2, ((), (0,), ()))
        self.granted(2, ((1,), (), ()))

    def test_all_rows_of_two_numbers(self):
        for first in ((), (1,)):
            for second in ((), (0,)):
                for last in ((), (0,), (1,), (0, 1)):
                    self.granted(2, (first, second, last))

    def test_while_nothing_stands_any_may_be_asked(self):
        for number in range(5):
            self.granted(5, ((),) * 5 + ((number,),))

    def test_mixed_ones_and_the_four_kinds(self):
        for k in KS:
            self.granted(k, mixed_askings(k, k))
            for kind in (any_number, by_one, around, one_up):
                self.granted(k, kind(k))

    def test_the_same_question_has_the_same_answer(self):
        rows = mixed_askings(5, 3)
        self.assertEqual(made_askings(5, rows), made_askings(5, rows))


class Refused(unittest.TestCase):
    def refused(self, k, rows):
        with self.assertRaises(NoAskings, msg=repr((k, rows))) as caught:
            made_askings(k, rows)
        self.assertEqual(caught.exception.args, ())

    def test_k_just_beyond(self):
        self.refused(1, ((), (0,)))
        self.refused(1, ((), ()))
        self.refused(0, ((),))
        self.refused(-1, ())
        self.refused(101, ((),) * 102)

    def test_k_no_number(self):
        for thing in NO_NUMBERS + FAR + [None]:
            self.refused(thing, ((1,), (0,), (0, 1)))
            self.refused(thing, ((), ()))
            self.refused(thing, ())

    def test_rows_no_rows(self):
        for thing in WHATEVER:
            if thing != ((), (), ()):
                self.refused(2, thing)

    def test_a_list_for_the_rows(self):
        for k in (2, 3, 100):
            self.refused(k, list(any_number(k)))
            self.refused(k, [()] * (k + 1))

    def test_a_list_for_a_row(self):
        for at in range(4):
            rows = list(any_number(3))
            rows[at] = list(rows[at])
            self.refused(3, tuple(rows))
            self.refused(3, ((),) * at + ([],) + ((),) * (3 - at))

    def test_a_row_no_row(self):
        for thing in NO_NUMBERS + FAR + [None, 0, 1, "01", (0, "1"), ((0,),)]:
            if thing not in ((), (1,)):
                self.refused(2, (thing, (0,), (0, 1)))
                self.refused(2, ((1,), (0,), thing))

    def test_a_thing_in_a_row_no_number(self):
        for thing in NO_NUMBERS + FAR + [None]:
            self.refused(3, ((thing,), (), ()) + ((),))
            self.refused(3, ((), (0, thing), (), ()))
            self.refused(3, ((), (), (), (thing, 2)))
            self.refused(3, ((), (), (), (0, 1, thing)))

    def test_true_for_1_and_false_for_0(self):
        self.refused(2, ((True,), (0,), (0, 1)))
        self.refused(2, ((1,), (False,), (0, 1)))
        self.refused(2, ((1,), (0,), (False, 1)))
        self.refused(2, ((1,), (0,), (0, True)))

    def test_a_row_too_many_and_one_too_few(self):
        for k in (2, 3, 99, 100):
            self.refused(k, ((),) * k)
            self.refused(k, ((),) * (k + 2))
            self.refused(k, any_number(k)[1:])
            self.refused(k, any_number(k) + ((),))
        self.refused(2, ())

    def test_the_number_that_stands(self):
        for k in (2, 3, 10, 100):
            for number in range(k):
                rows = [()] * (k + 1)
                rows[number] = (number,)
                self.refused(k, tuple(rows))
                rows[number] = tuple(range(k))
                self.refused(k, tuple(rows))

    def test_out_of_order_and_twice(self):
        for row in ((2, 1), (1, 1), (2, 2), (1, 2, 3, 2), (3, 1, 2), (1, 3, 3), (1, 1, 3)):
            self.refused(4, (row, (), (), (), ()))
        for row in ((1, 0), (0, 0), (3, 3), (0, 2, 1, 3), (0, 1, 2, 3, 3), (0, 0, 1, 2, 3)):
            self.refused(4, ((), (), (), (), row))

    def test_below_0_and_from_k_on(self):
        for k in (2, 3, 99, 100):
            for wrong in ((-1,), (-1, 0), (k,), (k - 1, k), (k + 1,), (-k,), (0, k)):
                self.refused(k, ((),) * k + (wrong,))
            for wrong in ((-1,), (k,), (k + 1,)):
                self.refused(k, (wrong,) + ((),) * k)

    def test_what_is_refused_stays_as_it_is(self):
        inner = [1, 0]
        rows = [(1,), inner, ()]
        self.refused(2, rows)
        self.refused(2, tuple(rows))
        self.refused(inner, rows)
        self.assertEqual((rows, inner), ([(1,), [1, 0], ()], [1, 0]))

    def test_deep_and_great_things(self):
        self.refused(deep(20), deep(20))
        self.refused(2, (deep(18), (), ()))
        self.refused(2, ((), (), tuple(range(9990))))


class Kinds(unittest.TestCase):
    def each(self, kind):
        for k in KS:
            askings = kind(k)
            self.assertIs(type(askings), tuple)
            self.assertEqual({type(row) for row in askings}, {tuple})
            self.assertEqual(len(askings), k + 1)
            self.assertEqual(kind(k), askings)
            for stands, row in as_rows(askings).items():
                yield k, stands, row

    def test_any_number(self):
        for k, stands, row in self.each(any_number):
            self.assertEqual(row, [other for other in range(k) if other != stands])

    def test_by_one(self):
        for k, stands, row in self.each(by_one):
            if stands is None:
                self.assertEqual(row, list(range(k)))
            else:
                self.assertEqual(row, [other for other in (stands - 1, stands + 1) if other in range(k)])

    def test_around(self):
        for k, stands, row in self.each(around):
            if stands is None:
                self.assertEqual(row, list(range(k)))
            else:
                self.assertEqual(row, sorted({(stands - 1) % k, (stands + 1) % k}))

    def test_one_up(self):
        for k, stands, row in self.each(one_up):
            if stands is None:
                self.assertEqual(row, [0])
            else:
                self.assertEqual(row, [stands + 1] if stands < k - 1 else [])

    def test_written_out(self):
        self.assertEqual(any_number(2), ((1,), (0,), (0, 1)))
        self.assertEqual(any_number(3), ((1, 2), (0, 2), (0, 1), (0, 1, 2)))
        self.assertEqual(by_one(2), ((1,), (0,), (0, 1)))
        self.assertEqual(by_one(4), ((1,), (0, 2), (1, 3), (2,), (0, 1, 2, 3)))
        self.assertEqual(around(2), ((1,), (0,), (0, 1)))
        self.assertEqual(around(3), ((1, 2), (0, 2), (0, 1), (0, 1, 2)))
        self.assertEqual(around(4), ((1, 3), (0, 2), (1, 3), (0, 2), (0, 1, 2, 3)))
        self.assertEqual(one_up(2), ((1,), (), (0,)))
        self.assertEqual(one_up(4), ((1,), (2,), (3,), (), (0,)))

    def test_somewhat_beyond_is_no_error(self):
        for kind in (any_number, by_one, around, one_up):
            for k in (0, 1, 101, 120):
                self.assertIs(type(kind(k)), tuple)


if __name__ == "__main__":
    unittest.main()
