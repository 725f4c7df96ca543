"""Point 3 of a ledger: long rows of deeds, held against the plain ledger and against the promise."""

import unittest

from notchledger.askings import any_number
from notchledger.joined import blank
from notchledger.lasting import how_long
from notchledger.ledger import Ledger
from notchledger.made import copies, crossed, twice, unary, weighed
from notchledger.summed import summed
from notchledger.writings import made_writing, numbers_read
from plain import TimedCase, full, mixed, plain_ways, steps
from plain_ledger import BothCase, some_deed, view_of

NAMES = ["ann", "bob", "cid", "dan", "eve"]
WRITINGS = [
    copies(3, 2), copies(2, 4), twice(3), twice(4), unary(4), crossed([1, 2, 3], 2), weighed([1, 2, 3, 4], 5),
    blank(copies(3, 1)), summed(4, 0), mixed(3, 3, 2), mixed(4, 4, 3), full(3, 3, 4), full(4, 5, 5),
]


class LongRows(BothCase):
    def test_as_the_plain_ledger(self):
        for seed, writing in enumerate(WRITINGS):
            self.begin_both(writing)
            worths = steps(seed)
            for name in NAMES[:3]:
                self.both("begin", name)
            asked = 0
            while self.ledger.deeds() < 200 and asked < 1000:
                self.both(*some_deed(writing, NAMES, worths))
                asked += 1
            self.assertEqual(self.ledger.deeds(), 200)
            told = [self.ledger.at(many) for many in range(201)]
            self.assertEqual(repr(told), repr(self.plain.behind))


class OnlyWritten(unittest.TestCase):
    """Strips that are only written on."""

    def walk(self, writing, seed):
        lasts = how_long(writing, any_number(writing[1]), 0)[0]
        ledger = Ledger(writing)
        numbers = numbers_read(writing)
        # For each account its number and how many turns its strip was asked for.
        stands = {name: (writing[2][0], 0) for name in NAMES}
        worths = steps(seed)
        for name in NAMES:
            ledger.begin(name)
        while ledger.deeds() < 200:
            name, number = NAMES[next(worths) % 5], numbers[next(worths) % len(numbers)]
            before, (stood, turns) = ledger.halves(name), stands[name]
            away = ledger.put_away(name)
            carried = ledger.write(name, number)
            self.assertEqual(carried, not plain_ways(writing, before[0], number))
            if carried:
                self.assertEqual(ledger.put_away(name), away + [before])
                self.assertIsNotNone(lasts)
                self.assertGreaterEqual(turns, lasts)
                stands[name] = (number, 0 if number == writing[2][0] else 1)
            else:
                self.assertEqual(ledger.put_away(name), away)
                stands[name] = (number, turns + (stood != number))
            for other in NAMES:
                self.assertEqual(ledger.number(other), stands[other][0])

    def test_put_away_only_when_it_has_to_be_and_never_ahead_of_its_turns(self):
        for seed, writing in enumerate(WRITINGS):
            for more in (0, 50):
                self.walk(writing, seed + more)


class OnlyPaid(unittest.TestCase):
    def test_what_is_paid_is_neither_lost_nor_made(self):
        for seed, writing in enumerate((weighed([1, 2, 3, 4, 3], 6), unary(6), twice(5), full(5, 8, 1), copies(4, 2))):
            ledger = Ledger(writing)
            worths = steps(seed)
            for at, name in enumerate(NAMES):
                ledger.begin(name)
                ledger.write(name, (2 * at + 1) % writing[1])
            total = sum((2 * at + 1) % writing[1] for at in range(5))
            paid = 0
            for times in range(400):
                one, other = NAMES[next(worths) % 5], NAMES[next(worths) % 5]
                amount = 1 + next(worths) % 4
                try:
                    ledger.pay(one, other, amount)
                    paid += 1
                except ValueError:
                    pass
                if paid > 3 and next(worths) % 16 == 0 and ledger.deeds() < 200:
                    ledger.back()
                    paid -= 1
                self.assertEqual(sum(ledger.number(name) for name in NAMES), total)
            self.assertGreater(ledger.deeds(), 60)
            for many in range(10, ledger.deeds() + 1):
                self.assertEqual(sum(number for name, number in ledger.at(many)), total)


class ReadTillOthersCome(unittest.TestCase):
    def test_cut_alone_in_one_half_changes_nothing_of_what_is_read(self):
        for writing in WRITINGS:
            for half in ("stock", "foil"):
                ledger = Ledger(writing)
                ledger.begin("ann")
                for number in numbers_read(writing):
                    ledger.write("ann", number)
                    whole = [spot for spot in range(writing[0]) if ledger.halves("ann")[0] // 2 ** spot % 2 == 0]
                    for spot in whole:
                        ledger.cut_alone("ann", half, [spot])
                        self.assertEqual(ledger.number("ann"), number)
                    self.assertEqual(ledger.settle("ann"), (half if whole else "same", number))
                    self.assertEqual(ledger.number("ann"), number)


class EightSpots(TimedCase):
    def row(self, writing):
        ledger = Ledger(writing)
        for name in NAMES:
            ledger.begin(name)
        numbers = numbers_read(writing)
        worths = steps(1)
        while ledger.deeds() < 100:
            ledger.write(NAMES[next(worths) % 5], numbers[next(worths) % len(numbers)])
        while ledger.deeds() < 130:
            ledger.back()
        while ledger.deeds() < 200:
            ledger.mend(NAMES[next(worths) % 5], 0)
        return view_of(ledger)

    def test_200_deeds_in_time(self):
        for writing in (
            full(8, 100, 1), weighed([1, 2, 4, 8, 16, 32, 64, 99], 100), copies(2, 8), twice(8), summed(8, 0),
            made_writing(8, 2, (0,) + (None,) * 254 + (1,)),
        ):
            self.timed(self.row, writing)


if __name__ == "__main__":
    unittest.main()
