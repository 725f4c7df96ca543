"""Point 5: made_writing and what it refuses."""

import unittest

from notchledger.errors import NoWriting
from notchledger.writings import made_writing, reading
from plain import FAR, NO_NUMBERS


class Granted(unittest.TestCase):
    def granted(self, n, k, table):
        told = made_writing(n, k, table)
        self.assertEqual(told, (n, k, table))
        self.assertEqual(repr(told), repr((n, k, table)))
        self.assertIs(type(told), tuple)
        self.assertIs(type(told[2]), tuple)

    def test_each_n(self):
        for n in range(1, 9):
            self.granted(n, 2, (0, 1) * 2 ** (n - 1))
            self.granted(n, 2, (None,) * 2 ** n)

    def test_each_k(self):
        for k in range(2, 101):
            self.granted(1, k, (0, k - 1))
            self.granted(8, k, tuple(cuts % k for cuts in range(256)))

    def test_nothing_anywhere(self):
        self.granted(2, 2, (None, 1, 0, None))
        self.granted(2, 2, (None, None, None, 1))

    def test_not_all_numbers_need_be_read(self):
        self.granted(1, 100, (7, 7))

    def test_the_same_question_has_the_same_answer(self):
        self.assertEqual(made_writing(1, 2, (0, 1)), made_writing(1, 2, (0, 1)))

    def test_what_was_refused_changes_nothing(self):
        with self.assertRaises(NoWriting):
            made_writing(1, 2, (0, 2))
        self.assertEqual(reading(made_writing(1, 3, (0, 2)), 1), 2)


class Refused(unittest.TestCase):
    def refused(self, n, k, table):
        with self.subTest(n=n, k=k, table=table):
            with self.assertRaises(NoWriting) as caught:
                made_writing(n, k, table)
            self.assertEqual(caught.exception.args, ())

    def test_n_just_beyond(self):
        self.refused(0, 2, (0,))
        self.refused(0, 2, ())
        self.refused(9, 2, (0, 1) * 256)
        self.refused(-1, 2, (0, 1))

    def test_k_just_beyond(self):
        self.refused(1, 1, (0, 0))
        self.refused(1, 0, (None, None))
        self.refused(1, -2, (None, None))
        self.refused(1, 101, (0, 1))

    def test_n_no_number(self):
        for thing in NO_NUMBERS + FAR + [None]:
            self.refused(thing, 2, (0, 1))
            self.refused(thing, 2, (0,))

    def test_k_no_number(self):
        for thing in NO_NUMBERS + FAR + [None]:
            self.refused(1, thing, (0, 0))
            self.refused(1, thing, (None, None))

    def test_table_no_table(self):
        for thing in NO_NUMBERS + FAR + [None, 0, 1, 2, "01", "ab"]:
            self.refused(1, 2, thing)

    def test_a_list_for_the_table(self):
        for n in range(1, 9):
            self.refused(n, 2, [0, 1] * 2 ** (n - 1))

    def test_a_thing_in_the_table_no_number(self):
        for thing in NO_NUMBERS + FAR:
            self.refused(1, 2, (thing, 0))
            self.refused(1, 2, (0, thing))
            self.refused(8, 100, (0,) * 255 + (thing,))

    def test_a_table_too_short_or_too_long(self):
        for n in range(1, 9):
            self.refused(n, 2, (0,) * (2 ** n - 1))
            self.refused(n, 2, (0,) * (2 ** n + 1))
            self.refused(n, 2, (None,) * (2 ** n - 1))
            self.refused(n, 2, (None,) * (2 ** n + 1))
        self.refused(1, 2, ())
        self.refused(1, 2, (0, 1, 0, 1))
        self.refused(2, 2, (0, 1))

    def test_numbers_from_k_on_and_below_0(self):
        for k in (2, 3, 50, 99, 100):
            for wrong in (k, k + 1, -1, -k):
                self.refused(1, k, (wrong, 0))
                self.refused(1, k, (None, wrong))
                self.refused(3, k, (0, 1, 0, 1, None, None, wrong, 1))

    def test_all_three_wrong(self):
        self.refused(None, None, None)
        self.refused("n", "k", "table")
        self.refused((1, 2, (0, 1)), 2, (0, 1))

    def test_what_is_refused_stays_as_it_is(self):
        inner = [0, 1]
        table = (0, inner)
        self.refused(1, 2, table)
        self.refused(1, 2, inner)
        self.assertEqual(inner, [0, 1])
        self.assertEqual(table, (0, [0, 1]))


if __name__ == "__main__":
    unittest.main()
