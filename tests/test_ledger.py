"""Points 26 to 30 written out: each deed, what it tells and what it changes."""

import unittest

from notchledger.errors import (
    Lent, NoDeed, NoHalf, NoName, NoNumber, NoSpot, NotLent, Nothing, Over, Same, Short, Spent, Taken, TooMany, Unknown,
    Unlike, Unsure,
)
from notchledger.ledger import Ledger
from notchledger.made import copies, unary, weighed
from notchledger.summed import summed
from notchledger.writings import made_writing
from plain import WHATEVER
from plain_ledger import view_of

# The first j spots alone read j: numbers can only grow till a strip is put away.
GROWING = unary(3)
# Lasts two turns: each weight is there twice.
TWO_TURNS = copies(3, 2)
# No cuts read nothing; 1 is no number that is read.
GAPS = made_writing(2, 4, (None, 2, 0, 3))


def ledger_of(writing, *names):
    ledger = Ledger(writing)
    for name in names:
        ledger.begin(name)
    return ledger


class LedgerCase(unittest.TestCase):
    def refused(self, error, ledger, ask, *given):
        """What is refused changes nothing, and deeds neither."""
        before = repr((view_of(ledger), given))
        with self.assertRaises(error, msg=(ask, given)) as caught:
            getattr(ledger, ask)(*given)
        self.assertEqual(type(caught.exception), error)
        self.assertEqual(caught.exception.args, ())
        self.assertEqual(repr((view_of(ledger), given)), before)

    def told(self, plain, ledger, ask, *given):
        """One deed more is granted, and this is told."""
        deeds = ledger.deeds()
        self.assertEqual(repr(getattr(ledger, ask)(*given)), repr(plain))
        self.assertEqual(ledger.deeds(), deeds + 1)


class Begin(LedgerCase):
    def test_a_new_account(self):
        ledger = Ledger(TWO_TURNS)
        self.assertEqual((ledger.names(), ledger.deeds(), ledger.at(0)), ([], 0, []))
        self.told(None, ledger, "begin", "bob")
        self.told(None, ledger, "begin", "ann")
        self.assertEqual(ledger.names(), ["ann", "bob"])
        self.assertEqual(repr(ledger.number("ann")), "0")
        self.assertEqual(ledger.halves("ann"), (0, 0))
        self.assertIsNone(ledger.twin("ann"))
        self.assertEqual(ledger.put_away("ann"), [])
        self.assertEqual(ledger.at(2), [("ann", 0), ("bob", 0)])

    def test_an_account_that_reads_nothing(self):
        ledger = ledger_of(GAPS, "ann")
        self.assertIsNone(ledger.number("ann"))
        self.assertEqual(ledger.at(1), [("ann", None)])

    def test_whatever_the_name_is(self):
        ledger = Ledger(TWO_TURNS)
        for thing in WHATEVER + [
            True, None, 5, ["ann"], ("ann",), "", "Ann", "ANN", "aNn", "ann ", " ann", "an n", "ann\n", "an\nn", "ann1",
            "1", "a_b", "a-b", "\u00e4nn", "\u00df", "\u0430nn", "\u02b0", "\uff41nn", "abcdefghi", "a" * 9, "a" * 4000,
        ]:
            if not (type(thing) is str and thing in ("lasts", "open", "x", "not", "missed", "unsure")):
                self.refused(NoName, ledger, "begin", thing)
        for name in ("a", "z", "abcdefgh", "zzzzzzzz", "lasts"):
            self.told(None, ledger, "begin", name)

    def test_taken(self):
        ledger = ledger_of(TWO_TURNS, "ann", "bob")
        ledger.write("ann", 1)
        self.refused(Taken, ledger, "begin", "ann")
        self.refused(Taken, ledger, "begin", "bob")

    def test_the_20th_and_the_21st(self):
        ledger = Ledger(TWO_TURNS)
        for letter in "abcdefghijklmnopqrst":
            self.told(None, ledger, "begin", letter)
        self.refused(TooMany, ledger, "begin", "u")
        self.refused(Taken, ledger, "begin", "t")
        self.refused(NoName, ledger, "begin", "U")
        self.assertEqual(len(ledger.names()), 20)


class NoSuchAccount(LedgerCase):
    def test_unknown_ahead_of_all_else(self):
        ledger = ledger_of(TWO_TURNS, "ann")
        for name in ("bob", "", "Ann", "ann ", "a" * 4000, "\n"):
            for ask in ("number", "halves", "twin", "put_away", "lend", "lay", "settle"):
                self.refused(Unknown, ledger, ask, name)
            for number in (1, None, True, "x"):
                self.refused(Unknown, ledger, "write", name, number)
                self.refused(Unknown, ledger, "write_twin", name, number)
                self.refused(Unknown, ledger, "pay", name, "ann", number)
                self.refused(Unknown, ledger, "pay", "ann", name, number)
                self.refused(Unknown, ledger, "pay", name, name, number)
            self.refused(Unknown, ledger, "cut_alone", name, "neither", [77])
            self.refused(Unknown, ledger, "mend", name, 1)


class Write(LedgerCase):
    def test_the_number_that_stands(self):
        ledger = ledger_of(TWO_TURNS, "ann")
        self.told(False, ledger, "write", "ann", 0)
        self.assertEqual(ledger.halves("ann"), (0, 0))
        ledger.write("ann", 2)
        halves = ledger.halves("ann")
        self.told(False, ledger, "write", "ann", 2)
        self.assertEqual((ledger.halves("ann"), ledger.put_away("ann")), (halves, []))

    def test_one_with_a_way_up_is_cut_on_to_what_keep_on_tells(self):
        # Spots 0 and 1 weigh 1, spots 2 and 3 weigh 2.
        ledger = ledger_of(TWO_TURNS, "ann", "bob")
        self.told(False, ledger, "write", "ann", 1)
        self.assertEqual(ledger.halves("ann"), (1, 1))
        self.assertEqual(repr(ledger.number("ann")), "1")
        self.told(False, ledger, "write", "ann", 0)
        self.assertEqual(ledger.halves("ann"), (5, 5))
        self.assertEqual(ledger.halves("bob"), (0, 0))

    def test_not_the_nearest_but_the_one_that_lasts_longest(self):
        # Spot 0 alone reads 1, but 0 can't be written over it; over spots 1 and 2 it can, by spot 3.
        table = [None] * 16
        table[0], table[1], table[6], table[14] = 0, 1, 1, 0
        ledger = ledger_of(made_writing(4, 2, tuple(table)), "ann")
        self.told(False, ledger, "write", "ann", 1)
        self.assertEqual(ledger.halves("ann"), (6, 6))
        self.told(False, ledger, "write", "ann", 0)
        self.told(True, ledger, "write", "ann", 1)
        self.assertEqual((ledger.halves("ann"), ledger.put_away("ann")), ((6, 6), [(14, 14)]))
        ledger.lend("ann")
        ledger.lay("ann")
        ledger.write("ann", 0)
        ledger.back()
        ledger.cut_alone("ann", "stock", [0])
        self.told(("stock", 1), ledger, "settle", "ann")
        self.assertEqual(ledger.halves("ann"), (6, 6))

    def test_a_twin_is_cut_on_likewise(self):
        table = [None] * 16
        table[0], table[1], table[6], table[14] = 0, 1, 1, 0
        ledger = ledger_of(made_writing(4, 2, tuple(table)), "ann")
        ledger.lend("ann")
        self.told(None, ledger, "write_twin", "ann", 1)
        self.assertEqual(ledger.twin("ann"), 6)

    def test_carried(self):
        ledger = ledger_of(GROWING, "ann")
        ledger.write("ann", 2)
        self.told(True, ledger, "write", "ann", 1)
        self.assertEqual((ledger.halves("ann"), ledger.put_away("ann")), ((1, 1), [(3, 3)]))
        self.told(True, ledger, "write", "ann", 0)
        self.assertEqual((ledger.halves("ann"), ledger.put_away("ann")), ((0, 0), [(3, 3), (1, 1)]))
        self.assertEqual(ledger.at(4), [("ann", 0)])

    def test_carried_with_a_twin(self):
        ledger = ledger_of(GROWING, "ann")
        ledger.write("ann", 2)
        ledger.lend("ann")
        self.refused(Lent, ledger, "write", "ann", 1)
        self.told(False, ledger, "write", "ann", 2)
        self.told(False, ledger, "write", "ann", 3)
        self.assertEqual((ledger.number("ann"), ledger.twin("ann")), (3, 3))

    def test_no_number(self):
        ledger = ledger_of(GAPS, "ann")
        for thing in (-1, 1, 4, 5, 100, 10 ** 59, True, False, None, "2", "", [2], (2,), [], "x" * 4000):
            self.refused(NoNumber, ledger, "write", "ann", thing)
        for number in (0, 2, 3):
            self.assertIn(ledger.write("ann", number), (True, False))
            self.assertEqual(ledger.number("ann"), number)

    def test_a_writing_that_reads_nothing(self):
        ledger = ledger_of(made_writing(1, 2, (None, None)), "ann")
        self.refused(NoNumber, ledger, "write", "ann", 0)
        self.refused(NoNumber, ledger, "write", "ann", 1)

    def test_halves_that_are_not_alike(self):
        ledger = ledger_of(TWO_TURNS, "ann")
        ledger.cut_alone("ann", "foil", [0])
        self.refused(Unlike, ledger, "write", "ann", 1)
        self.refused(Unlike, ledger, "write", "ann", 0)
        self.refused(NoNumber, ledger, "write", "ann", 3)


class Pay(LedgerCase):
    def begun(self, one, other, writing=None):
        ledger = ledger_of(weighed([1, 2, 3, 3, 2, 1], 7) if writing is None else writing, "ann", "bob")
        ledger.write("ann", one)
        ledger.write("bob", other)
        return ledger

    def test_ordinary(self):
        ledger = self.begun(5, 1)
        self.told((False, False), ledger, "pay", "ann", "bob", 2)
        self.assertEqual((ledger.number("ann"), ledger.number("bob")), (3, 3))

    def test_each_bound_of_short(self):
        for stands in range(7):
            for amount in range(1, 8):
                ledger = self.begun(stands, 0)
                if amount > stands:
                    self.refused(Short, ledger, "pay", "ann", "bob", amount)
                else:
                    ledger.pay("ann", "bob", amount)
                    self.assertEqual((ledger.number("ann"), ledger.number("bob")), (stands - amount, amount))

    def test_each_bound_of_over(self):
        for stands in range(7):
            for amount in range(1, 7):
                ledger = self.begun(6, stands)
                if stands + amount > 6:
                    self.refused(Over, ledger, "pay", "ann", "bob", amount)
                else:
                    ledger.pay("ann", "bob", amount)
                    self.assertEqual((ledger.number("ann"), ledger.number("bob")), (6 - amount, stands + amount))

    def test_amounts_whatever_they_are(self):
        ledger = self.begun(5, 1)
        for thing in (0, -1, 100, 101, 10 ** 59, True, False, None, "1", "", [1], (1,), []):
            self.refused(NoNumber, ledger, "pay", "ann", "bob", thing)
        self.refused(Short, ledger, "pay", "ann", "bob", 99)

    def test_99_of_99(self):
        writing = weighed([99, 99, 1, 50, 20], 100)
        ledger = self.begun(99, 0, writing)
        self.assertEqual([type(truth) for truth in ledger.pay("ann", "bob", 99)], [bool, bool])
        self.assertEqual((ledger.number("ann"), ledger.number("bob")), (0, 99))

    def test_the_same(self):
        ledger = self.begun(5, 1)
        self.refused(Same, ledger, "pay", "ann", "ann", 1)
        self.refused(Same, ledger, "pay", "bob", "bob", None)
        self.refused(Same, ledger, "pay", "bob", "bob", 99)

    def test_unlike_for_one_or_other(self):
        for name in ("ann", "bob"):
            ledger = self.begun(5, 1)
            whole = [spot for spot in range(6) if ledger.halves(name)[0] // 2 ** spot % 2 == 0]
            ledger.cut_alone(name, "stock", whole[:1])
            self.refused(Unlike, ledger, "pay", "ann", "bob", 1)
            self.refused(Unlike, ledger, "pay", "bob", "ann", 1)

    def test_nothing_for_one_or_other(self):
        ledger = ledger_of(GAPS, "ann", "bob")
        self.refused(Nothing, ledger, "pay", "ann", "bob", 1)
        ledger.write("ann", 2)
        self.refused(Nothing, ledger, "pay", "ann", "bob", 1)
        self.refused(Nothing, ledger, "pay", "bob", "ann", 1)
        self.refused(Nothing, ledger, "pay", "ann", "bob", 99)

    def test_no_cuts_read_one_of_the_new_ones(self):
        ledger = ledger_of(GAPS, "ann", "bob")
        ledger.write("ann", 2)
        ledger.write("bob", 0)
        self.refused(NoNumber, ledger, "pay", "ann", "bob", 1)
        ledger.write("bob", 2)
        self.refused(NoNumber, ledger, "pay", "ann", "bob", 1)
        ledger.write("ann", 3)
        ledger.write("bob", 0)
        self.refused(NoNumber, ledger, "pay", "ann", "bob", 1)
        self.told((True, False), ledger, "pay", "ann", "bob", 3)

    def test_carried_one_and_carried_other(self):
        ledger = self.begun(2, 0, GROWING)
        self.told((True, False), ledger, "pay", "ann", "bob", 1)
        self.assertEqual((ledger.put_away("ann"), ledger.put_away("bob")), ([(3, 3)], []))
        shrinking = made_writing(3, 4, (3, 2, None, 1, None, None, None, 0))
        ledger = self.begun(3, 1, shrinking)
        self.told((False, True), ledger, "pay", "ann", "bob", 1)
        self.assertEqual((ledger.put_away("ann"), ledger.put_away("bob")), ([], [(3, 3)]))
        self.assertEqual((ledger.number("ann"), ledger.number("bob")), (2, 2))

    def test_lent_if_one_would_have_to_be_carried(self):
        for lender, refused in (("ann", True), ("bob", False)):
            ledger = self.begun(2, 0, GROWING)
            ledger.lend(lender)
            if refused:
                self.refused(Lent, ledger, "pay", "ann", "bob", 1)
            else:
                self.told((True, False), ledger, "pay", "ann", "bob", 1)
        shrinking = made_writing(3, 4, (3, 2, None, 1, None, None, None, 0))
        ledger = self.begun(3, 1, shrinking)
        ledger.lend("bob")
        self.refused(Lent, ledger, "pay", "ann", "bob", 1)


class Twins(LedgerCase):
    def test_lent_written_and_laid(self):
        ledger = ledger_of(GROWING, "ann")
        ledger.write("ann", 1)
        self.told(None, ledger, "lend", "ann")
        self.assertEqual(ledger.twin("ann"), 1)
        self.told(None, ledger, "write_twin", "ann", 3)
        self.assertEqual((ledger.twin("ann"), ledger.halves("ann"), ledger.number("ann")), (7, (1, 1), 1))
        self.told(None, ledger, "write_twin", "ann", 3)
        self.told(False, ledger, "write", "ann", 2)
        self.told(3, ledger, "lay", "ann")
        self.assertEqual((ledger.twin("ann"), ledger.halves("ann"), ledger.put_away("ann")), (None, (7, 7), []))
        self.assertEqual(ledger.number("ann"), 3)

    def test_lent_twice(self):
        ledger = ledger_of(GROWING, "ann", "bob")
        ledger.lend("ann")
        self.refused(Lent, ledger, "lend", "ann")
        self.told(None, ledger, "lend", "bob")
        ledger.cut_alone("ann", "stock", [0])
        self.refused(Unlike, ledger, "lend", "ann")

    def test_not_lent(self):
        ledger = ledger_of(GROWING, "ann")
        self.refused(NotLent, ledger, "write_twin", "ann", 1)
        self.refused(NotLent, ledger, "write_twin", "ann", None)
        self.refused(NotLent, ledger, "lay", "ann")
        ledger.lend("ann")
        ledger.lay("ann")
        self.refused(NotLent, ledger, "lay", "ann")
        ledger.cut_alone("ann", "stock", [0])
        self.refused(NotLent, ledger, "lay", "ann")
        self.refused(Unlike, ledger, "lend", "ann")

    def test_written_until_spent(self):
        ledger = ledger_of(TWO_TURNS, "ann")
        ledger.lend("ann")
        written = 0
        while written < 20:
            number = (written + 1) % 3
            try:
                ledger.write_twin("ann", number)
            except Spent:
                break
            written += 1
        self.assertGreaterEqual(written, 2)
        self.assertLessEqual(written, 4)
        self.refused(Spent, ledger, "write_twin", "ann", (written + 1) % 3)
        self.assertEqual((ledger.halves("ann"), ledger.put_away("ann")), ((0, 0), []))

    def test_spent(self):
        ledger = ledger_of(GROWING, "ann")
        ledger.write("ann", 2)
        ledger.lend("ann")
        self.refused(Spent, ledger, "write_twin", "ann", 1)
        self.refused(Spent, ledger, "write_twin", "ann", 0)
        self.told(None, ledger, "write_twin", "ann", 2)
        self.assertEqual(ledger.twin("ann"), 3)

    def test_no_number(self):
        ledger = ledger_of(GAPS, "ann")
        ledger.lend("ann")
        for thing in (-1, 1, 4, 10 ** 59, True, False, None, "2", [2], (2,)):
            self.refused(NoNumber, ledger, "write_twin", "ann", thing)

    def test_written_though_the_halves_are_not_alike(self):
        ledger = ledger_of(GROWING, "ann")
        ledger.lend("ann")
        ledger.cut_alone("ann", "stock", [2])
        self.told(None, ledger, "write_twin", "ann", 1)
        self.refused(Unlike, ledger, "lay", "ann")

    def test_laid_and_nothing_is_read(self):
        ledger = ledger_of(made_writing(2, 3, (0, 1, 2, None)), "ann")
        ledger.lend("ann")
        ledger.write("ann", 1)
        ledger.write_twin("ann", 2)
        self.told(None, ledger, "lay", "ann")
        self.assertEqual((ledger.halves("ann"), ledger.number("ann")), ((3, 3), None))
        self.assertEqual(ledger.at(ledger.deeds()), [("ann", None)])
        self.told(True, ledger, "write", "ann", 1)
        self.assertEqual(ledger.put_away("ann"), [(3, 3)])


class CutAlone(LedgerCase):
    def test_each_half(self):
        ledger = ledger_of(GROWING, "ann")
        self.told(None, ledger, "cut_alone", "ann", "stock", [0, 2])
        self.assertEqual((ledger.halves("ann"), ledger.number("ann")), ((5, 0), 0))
        self.told(None, ledger, "cut_alone", "ann", "foil", [0])
        self.assertEqual((ledger.halves("ann"), ledger.number("ann")), ((5, 1), 1))
        self.told(None, ledger, "cut_alone", "ann", "foil", [2])
        self.assertEqual((ledger.halves("ann"), ledger.number("ann")), ((5, 5), None))

    def test_an_empty_list(self):
        ledger = ledger_of(GROWING, "ann")
        self.told(None, ledger, "cut_alone", "ann", "stock", [])
        self.assertEqual(ledger.halves("ann"), (0, 0))

    def test_in_whatever_order(self):
        ledger = ledger_of(GROWING, "ann")
        self.told(None, ledger, "cut_alone", "ann", "foil", [2, 0, 1])
        self.assertEqual(ledger.halves("ann"), (0, 7))

    def test_spots_that_are_none_twice_or_cut_already(self):
        ledger = ledger_of(GROWING, "ann")
        ledger.write("ann", 1)
        for wrong in ([3], [-1], [100], [1, 1], [2, 1, 2], [0], [1, 0], [1, 2, 3], [0, 0], [10 ** 59], [1] * 100):
            self.refused(NoSpot, ledger, "cut_alone", "ann", "stock", wrong)
            self.refused(NoSpot, ledger, "cut_alone", "ann", "foil", wrong)
        ledger.cut_alone("ann", "stock", [1])
        self.refused(NoSpot, ledger, "cut_alone", "ann", "stock", [1])
        self.told(None, ledger, "cut_alone", "ann", "foil", [1])

    def test_whatever_the_half_is(self):
        ledger = ledger_of(GROWING, "ann")
        for half in WHATEVER + ["Stock", "FOIL", "both", "stock ", "", ["stock"], ("stock", "foil"), "stockfoil"]:
            self.refused(NoHalf, ledger, "cut_alone", "ann", half, [0])
        self.refused(NoHalf, ledger, "cut_alone", "ann", "both", [9])

    def test_with_a_twin(self):
        ledger = ledger_of(GROWING, "ann")
        ledger.lend("ann")
        self.told(None, ledger, "cut_alone", "ann", "stock", [0])
        self.assertEqual(ledger.twin("ann"), 0)


class Settle(LedgerCase):
    def test_alike_halves(self):
        ledger = ledger_of(GROWING, "ann")
        self.told(("same", 0), ledger, "settle", "ann")
        ledger.write("ann", 2)
        ledger.lend("ann")
        self.told(("same", 2), ledger, "settle", "ann")
        self.assertEqual((ledger.halves("ann"), ledger.put_away("ann"), ledger.twin("ann")), ((3, 3), [], 3))

    def test_alike_halves_that_read_nothing(self):
        ledger = ledger_of(GAPS, "ann")
        self.told(("same", None), ledger, "settle", "ann")
        self.assertEqual((ledger.halves("ann"), ledger.put_away("ann")), ((0, 0), []))

    def test_each_word(self):
        for stock, foil, word in (([2], [], "stock"), ([], [1, 2], "foil"), ([1], [2], "both")):
            ledger = ledger_of(GROWING, "ann")
            ledger.write("ann", 1)
            ledger.cut_alone("ann", "stock", stock)
            ledger.cut_alone("ann", "foil", foil)
            halves = ledger.halves("ann")
            self.told((word, 1), ledger, "settle", "ann")
            self.assertEqual((ledger.halves("ann"), ledger.put_away("ann")), ((1, 1), [halves]))

    def test_both_with_more_in_common_than_was_written(self):
        ledger = ledger_of(GROWING, "ann")
        ledger.cut_alone("ann", "stock", [0, 1])
        ledger.cut_alone("ann", "foil", [0, 2])
        self.told(("both", 1), ledger, "settle", "ann")
        self.assertEqual((ledger.halves("ann"), ledger.put_away("ann")), ((1, 1), [(3, 5)]))

    def test_nothing_is_read(self):
        ledger = ledger_of(GAPS, "ann")
        ledger.cut_alone("ann", "stock", [0])
        self.refused(Nothing, ledger, "settle", "ann")
        ledger.cut_alone("ann", "foil", [0])
        self.told(("same", 2), ledger, "settle", "ann")

    def test_with_a_twin(self):
        ledger = ledger_of(GROWING, "ann")
        ledger.lend("ann")
        ledger.cut_alone("ann", "stock", [0])
        self.refused(Lent, ledger, "settle", "ann")
        ledger = ledger_of(GAPS, "ann")
        ledger.lend("ann")
        ledger.cut_alone("ann", "stock", [0])
        self.refused(Nothing, ledger, "settle", "ann")


class Mend(LedgerCase):
    def torn(self, writing, some):
        ledger = ledger_of(writing, "ann")
        ledger.cut_alone("ann", "stock", some)
        ledger.cut_alone("ann", "foil", some)
        return ledger

    def test_one_tear(self):
        # The cuts 0 and 5 read 0 and 1.
        ledger = ledger_of(summed(3, 0), "ann")
        ledger.write("ann", 1)
        ledger.cut_alone("ann", "stock", [1])
        self.refused(Unlike, ledger, "mend", "ann", 1)
        ledger.cut_alone("ann", "foil", [1])
        self.refused(Nothing, ledger, "mend", "ann", 0)
        self.refused(Unsure, ledger, "mend", "ann", 3)
        self.told(1, ledger, "mend", "ann", 1)
        self.assertEqual((ledger.halves("ann"), ledger.put_away("ann")), ((5, 5), [(7, 7)]))
        self.assertEqual(ledger.number("ann"), 1)

    def test_where_nothing_is_to_change(self):
        for tears in range(9):
            ledger = ledger_of(summed(3, 0), "ann")
            self.told(0, ledger, "mend", "ann", tears)
            self.assertEqual((ledger.halves("ann"), ledger.put_away("ann")), ((0, 0), []))

    def test_the_cuts_read_the_number_by_other_cuts(self):
        ledger = self.torn(made_writing(2, 2, (1, 1, None, None)), [0])
        self.told(1, ledger, "mend", "ann", 1)
        self.assertEqual((ledger.halves("ann"), ledger.put_away("ann")), ((1, 1), []))

    def test_tears_0_to_8(self):
        # Spot 0 alone reads 1; of all spots cut it is behind with seven tears and more.
        writing = made_writing(8, 2, (None, 1) + (None,) * 254)
        for tears in range(9):
            ledger = self.torn(writing, list(range(8)))
            if tears < 7:
                self.refused(Nothing, ledger, "mend", "ann", tears)
            else:
                self.told(1, ledger, "mend", "ann", tears)
                self.assertEqual((ledger.halves("ann"), ledger.put_away("ann")), ((1, 1), [(255, 255)]))

    def test_unsure_though_the_cuts_read_a_number(self):
        ledger = self.torn(GROWING, [0])
        self.told(1, ledger, "mend", "ann", 0)
        for tears in range(1, 9):
            self.refused(Unsure, ledger, "mend", "ann", tears)

    def test_with_a_twin(self):
        ledger = self.torn(GROWING, [0])
        ledger.lend("ann")
        for tears in (0, 1, 8):
            self.refused(Lent, ledger, "mend", "ann", tears)
        ledger.cut_alone("ann", "stock", [1])
        self.refused(Unlike, ledger, "mend", "ann", 0)

    def test_somewhat_beyond_is_no_error_but_what_is_told(self):
        self.told(0, ledger_of(summed(3, 0), "ann"), "mend", "ann", 9)


class Back(LedgerCase):
    def test_nothing_to_take_back(self):
        ledger = Ledger(GROWING)
        self.refused(NoDeed, ledger, "back")
        ledger.begin("ann")
        ledger.lend("ann")
        ledger.write_twin("ann", 1)
        ledger.lay("ann")
        ledger.cut_alone("ann", "stock", [1])
        ledger.settle("ann")
        ledger.mend("ann", 0)
        self.refused(NoDeed, ledger, "back")

    def test_a_write(self):
        ledger = ledger_of(TWO_TURNS, "ann")
        ledger.write("ann", 1)
        self.told(["ann"], ledger, "back")
        self.assertEqual((ledger.number("ann"), ledger.halves("ann"), ledger.put_away("ann")), (0, (5, 5), []))
        self.refused(NoDeed, ledger, "back")

    def test_a_pay_one_ahead_of_other(self):
        ledger = ledger_of(GROWING, "ann", "bob")
        ledger.write("bob", 2)
        ledger.pay("bob", "ann", 1)
        self.told(["bob", "ann"], ledger, "back")
        self.assertEqual((ledger.number("ann"), ledger.number("bob")), (0, 2))
        self.assertEqual((ledger.put_away("ann"), ledger.put_away("bob")), ([(1, 1)], [(3, 3)]))

    def test_several_one_after_another(self):
        ledger = ledger_of(TWO_TURNS, "ann", "bob")
        for name, number in (("ann", 1), ("ann", 2), ("bob", 1), ("ann", 0), ("ann", 2)):
            ledger.write(name, number)
        ledger.pay("ann", "bob", 1)
        stood = [(1, 2), (2, 1), (0, 1), (2, 1), (2, 0), (1, 0), (0, 0)]
        self.assertEqual((ledger.number("ann"), ledger.number("bob")), stood[0])
        for numbers, names in zip(stood[1:], (["ann", "bob"], ["ann"], ["ann"], ["bob"], ["ann"], ["ann"])):
            self.told(names, ledger, "back")
            self.assertEqual((ledger.number("ann"), ledger.number("bob")), numbers)
        self.refused(NoDeed, ledger, "back")

    def test_a_back_is_not_taken_back(self):
        ledger = ledger_of(TWO_TURNS, "ann")
        ledger.write("ann", 1)
        ledger.back()
        self.refused(NoDeed, ledger, "back")
        ledger.write("ann", 2)
        ledger.back()
        self.assertEqual(ledger.number("ann"), 0)
        self.refused(NoDeed, ledger, "back")

    def test_a_write_by_which_nothing_was_cut(self):
        ledger = ledger_of(TWO_TURNS, "ann")
        ledger.write("ann", 1)
        ledger.write("ann", 1)
        halves = ledger.halves("ann")
        self.told(["ann"], ledger, "back")
        self.assertEqual(ledger.halves("ann"), halves)
        self.told(["ann"], ledger, "back")
        self.assertEqual(ledger.number("ann"), 0)

    def test_a_write_that_was_refused_is_not_one(self):
        ledger = ledger_of(GROWING, "ann", "bob")
        ledger.write("ann", 2)
        ledger.lend("ann")
        self.refused(Lent, ledger, "write", "ann", 1)
        self.refused(Lent, ledger, "pay", "ann", "bob", 1)
        ledger.lay("ann")
        self.told(["ann"], ledger, "back")
        self.assertEqual(ledger.number("ann"), 0)
        self.refused(NoDeed, ledger, "back")

    def test_nothing_was_read_ahead_of_it_so_it_stays_the_last_one(self):
        ledger = ledger_of(GAPS, "ann", "bob")
        ledger.write("bob", 2)
        ledger.write("bob", 3)
        ledger.write("ann", 2)
        self.refused(Nothing, ledger, "back")
        self.refused(Nothing, ledger, "back")
        ledger.write("ann", 0)
        self.told(["ann"], ledger, "back")
        self.assertEqual(ledger.number("ann"), 2)
        self.refused(Nothing, ledger, "back")

    def test_unlike_for_one_or_other(self):
        for name in ("ann", "bob"):
            ledger = ledger_of(GROWING, "ann", "bob")
            ledger.write("ann", 1)
            ledger.pay("ann", "bob", 1)
            ledger.cut_alone(name, "foil", [2])
            self.refused(Unlike, ledger, "back")
            ledger.settle(name)
            self.told(["ann", "bob"], ledger, "back")

    def test_lent_if_one_would_have_to_be_carried(self):
        ledger = ledger_of(GROWING, "ann", "bob")
        ledger.write("ann", 1)
        ledger.pay("ann", "bob", 1)
        ledger.lend("ann")
        ledger.lend("bob")
        self.refused(Lent, ledger, "back")
        ledger.lay("bob")
        self.told(["ann", "bob"], ledger, "back")
        self.assertEqual((ledger.number("ann"), ledger.number("bob"), ledger.twin("ann")), (1, 0, 0))

    def test_behind_mends_settles_and_lays(self):
        ledger = ledger_of(summed(3, 0), "ann")
        ledger.write("ann", 1)
        for half in ("stock", "foil"):
            ledger.cut_alone("ann", half, [1])
        ledger.mend("ann", 1)
        ledger.cut_alone("ann", "stock", [1])
        ledger.settle("ann")
        ledger.lend("ann")
        ledger.lay("ann")
        self.told(["ann"], ledger, "back")
        self.assertEqual(ledger.number("ann"), 0)
        self.assertEqual(ledger.put_away("ann"), [(7, 7), (7, 5), (5, 5)])

    def test_whatever_is_read_now(self):
        ledger = ledger_of(made_writing(2, 3, (0, 1, 2, None)), "ann")
        ledger.lend("ann")
        ledger.write("ann", 1)
        ledger.write_twin("ann", 2)
        self.assertIsNone(ledger.lay("ann"))
        self.told(["ann"], ledger, "back")
        self.assertEqual((ledger.number("ann"), ledger.put_away("ann")), (0, [(3, 3)]))


class Deeds(LedgerCase):
    def filled(self, many):
        ledger = ledger_of(TWO_TURNS, "ann", "bob")
        while ledger.deeds() < many:
            ledger.write("ann", ledger.deeds() % 3)
        return ledger

    def test_the_200th_and_the_201st(self):
        ledger = self.filled(199)
        self.refused(NoNumber, ledger, "write", "ann", 3)
        self.refused(Unknown, ledger, "write", "cid", 1)
        self.told(None, ledger, "begin", "cid")
        self.assertEqual(ledger.deeds(), 200)
        for call in (
            ("begin", "dan"), ("begin", "ann"), ("begin", None), ("write", "ann", 1), ("write", "dan", 1),
            ("write", "ann", None), ("pay", "ann", "bob", 1), ("pay", "dan", "eve", 0), ("pay", "ann", "ann", 1),
            ("lend", "ann"), ("lend", "dan"), ("write_twin", "ann", 1), ("write_twin", "dan", 1), ("lay", "ann"),
            ("lay", "dan"), ("cut_alone", "ann", "stock", []), ("cut_alone", "dan", "half", [9]), ("settle", "ann"),
            ("settle", "dan"), ("mend", "ann", 0), ("mend", "dan", 0), ("back",),
        ):
            self.refused(TooMany, ledger, *call)

    def test_what_is_no_deed_is_told_behind_200(self):
        ledger = self.filled(200)
        self.assertEqual(ledger.names(), ["ann", "bob"])
        self.assertEqual(ledger.number("ann"), 199 % 3)
        self.assertEqual(len(ledger.halves("ann")), 2)
        self.assertIsNone(ledger.twin("ann"))
        self.assertTrue(ledger.put_away("ann"))
        self.assertEqual(ledger.at(200), [("ann", 199 % 3), ("bob", 0)])
        self.assertRaises(Unknown, ledger.number, "cid")

    def test_each_kind_of_deed_counts_and_nothing_else(self):
        ledger = Ledger(GROWING)
        for many, call in enumerate((
            ("begin", "ann"), ("begin", "bob"), ("write", "ann", 0), ("write", "ann", 1), ("pay", "ann", "bob", 1),
            ("lend", "ann"), ("write_twin", "ann", 2), ("lay", "ann"), ("cut_alone", "ann", "foil", [2]),
            ("cut_alone", "ann", "foil", []), ("settle", "ann"), ("settle", "bob"), ("mend", "bob", 0), ("back",),
        )):
            self.assertEqual(ledger.deeds(), many)
            getattr(ledger, call[0])(*call[1:])
            view_of(ledger)
            self.assertEqual(ledger.deeds(), many + 1)

    def test_at_for_each_many(self):
        ledger = Ledger(made_writing(2, 3, (None, 1, 2, 0)))
        plain = [[]]
        for call in (
            ("begin", "cid"), ("begin", "ann"), ("write", "cid", 1), ("write", "cid", 0), ("begin", "bob"),
            ("cut_alone", "bob", "stock", [0]), ("cut_alone", "bob", "foil", [0]), ("pay", "bob", "cid", 1),
            ("write", "cid", 2), ("lend", "cid"), ("lay", "cid"), ("settle", "ann"), ("back",),
        ):
            getattr(ledger, call[0])(*call[1:])
            plain.append([(name, ledger.number(name)) for name in sorted(ledger.names())])
            self.assertEqual([ledger.at(many) for many in range(ledger.deeds() + 1)], plain)
        self.assertEqual(ledger.at(0), [])
        self.assertEqual(ledger.at(3), [("ann", None), ("cid", 1)])

    def test_at_somewhat_beyond_is_no_error(self):
        ledger = ledger_of(GROWING, "ann")
        for many in (-1, 2, 201):
            self.assertIsInstance(ledger.at(many), list)


class ItsOwn(LedgerCase):
    def test_two_ledgers_side_by_side(self):
        one, other = ledger_of(GROWING, "ann"), ledger_of(GROWING, "ann")
        before = repr(view_of(other))
        one.write("ann", 2)
        one.lend("ann")
        one.begin("bob")
        one.cut_alone("ann", "stock", [2])
        self.assertEqual(repr(view_of(other)), before)
        other.write("ann", 1)
        self.assertEqual((one.number("ann"), other.number("ann")), (2, 1))
        self.refused(NotLent, other, "lay", "ann")
        self.assertEqual((one.deeds(), other.deeds()), (5, 2))

    def test_lists_that_were_told_and_changed_afterwards(self):
        ledger = ledger_of(GROWING, "ann", "bob")
        ledger.write("ann", 2)
        ledger.write("ann", 1)
        before = repr((view_of(ledger), ledger.at(1), ledger.at(0)))
        for told in (ledger.names(), ledger.put_away("ann"), ledger.put_away("bob"), ledger.at(4), ledger.at(0)):
            told.append("eve")
            told[0] = None
        self.assertEqual(repr((view_of(ledger), ledger.at(1), ledger.at(0))), before)
        told = ledger.back()
        told.clear()
        self.assertEqual(ledger.names(), ["ann", "bob"])

    def test_a_list_told_by_back_changed_afterwards(self):
        ledger = ledger_of(TWO_TURNS, "ann", "bob")
        ledger.write("ann", 1)
        ledger.write("ann", 2)
        ledger.back().append("bob")
        self.assertEqual(ledger.back(), ["ann"])

    def test_a_list_that_was_handed_in_and_changed_afterwards(self):
        ledger = ledger_of(GROWING, "ann")
        some = [0, 2]
        ledger.cut_alone("ann", "stock", some)
        self.assertEqual(some, [0, 2])
        some.clear()
        self.assertEqual(ledger.halves("ann"), (5, 0))

    def test_each_list_is_a_new_one_and_asking_again_tells_the_same(self):
        ledger = ledger_of(GROWING, "ann")
        ledger.write("ann", 2)
        ledger.write("ann", 1)
        for ask, given in (("names", ()), ("put_away", ("ann",)), ("at", (3,)), ("at", (0,))):
            one, other = getattr(ledger, ask)(*given), getattr(ledger, ask)(*given)
            self.assertEqual(one, other)
            self.assertIsNot(one, other)
        self.assertEqual(repr(view_of(ledger)), repr(view_of(ledger)))

    def test_what_is_told_once_stays_as_it_was(self):
        ledger = ledger_of(GROWING, "ann")
        names, away, behind = ledger.names(), ledger.put_away("ann"), ledger.at(1)
        ledger.begin("bob")
        ledger.write("ann", 2)
        ledger.write("ann", 1)
        self.assertEqual((names, away, behind), (["ann"], [], [("ann", 0)]))


if __name__ == "__main__":
    unittest.main()
