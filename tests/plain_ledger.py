"""Points 26 to 30 once more, as plainly as can be: a ledger against which tests hold the program's."""

import copy
import re
import unittest

from notchledger.askings import any_number
from notchledger.errors import NotchError
from notchledger.ledger import Ledger
from plain import plain_most, plain_ways, spots


def plain_keep_on(writing, cuts, number):
    """Point 11: the way up that lasts longest, then the fewest further cuts, then the least."""
    ways = plain_ways(writing, cuts, number)
    if not ways:
        return None
    lasts = {up: plain_most(writing, any_number(writing[1]), up) for up in ways}
    return min(ways, key=lambda up: (-lasts[up], len(spots(up) - spots(cuts)), up))


class PlainLedger:
    """Tells of each deed ("told", answer) or ("refused", name); keeps which two refusals were ever due at once."""

    def __init__(self, writing, pairs):
        self.writing = writing
        self.pairs = pairs
        self.strips = {}
        self.to_take_back = []
        self.behind = [[]]

    def __deepcopy__(self, memo):
        other = PlainLedger(self.writing, self.pairs)
        other.strips = copy.deepcopy(self.strips, memo)
        other.to_take_back = [list(changes) for changes in self.to_take_back]
        other.behind = list(self.behind)
        return other

    def due(self, deed, *given):
        """All refusals that are due, in the order of the points."""
        return (["TooMany"] if len(self.behind) == 201 else []) + getattr(self, "due_" + deed)(*given)

    def is_granted(self, deed, *given):
        return not self.due(deed, *given)

    def ask(self, deed, *given):
        due = self.due(deed, *given)
        self.pairs.update((deed, one, other) for at, one in enumerate(due) for other in due[at + 1:])
        if due:
            return ("refused", due[0])
        told = getattr(self, "do_" + deed)(*given)
        self.behind.append([(name, self.reads(name)) for name in sorted(self.strips)])
        return ("told", told)

    def view(self):
        names = sorted(self.strips)
        each = [(self.reads(name), self.strips[name]["halves"], self.strips[name]["twin"], self.strips[name]["away"])
                for name in names]
        return (names, each, len(self.behind) - 1, self.behind[-1])

    def common(self, name):
        stock, foil = self.strips[name]["halves"]
        return sum(2 ** spot for spot in spots(stock) & spots(foil))

    def reads(self, name):
        return self.writing[2][self.common(name)]

    def unknown(self, *names):
        return ["Unknown"] if any(name not in self.strips for name in names) else []

    def no_number(self, thing):
        right = type(thing) is int and 0 <= thing < self.writing[1] and thing in self.writing[2]
        return [] if right else ["NoNumber"]

    def unlike(self, *names):
        known = [name for name in names if name in self.strips]
        alike = all(self.strips[name]["halves"][0] == self.strips[name]["halves"][1] for name in known)
        return [] if alike else ["Unlike"]

    def lent(self, name):
        return ["Lent"] if name in self.strips and self.strips[name]["twin"] is not None else []

    def not_lent(self, name):
        return ["NotLent"] if name in self.strips and self.strips[name]["twin"] is None else []

    def carried_and_lent(self, name, number):
        """Whether no way up leads to the number, of an account with a twin."""
        if not self.lent(name) or type(number) is not int:
            return []
        return [] if plain_ways(self.writing, self.strips[name]["halves"][0], number) else ["Lent"]

    def put(self, name, number):
        strip = self.strips[name]
        if self.reads(name) == number:
            return False
        up = plain_keep_on(self.writing, strip["halves"][0], number)
        if up is None:
            self.put_on_a_whole_one(name, number)
            return True
        strip["halves"] = (up, up)
        return False

    def put_on_a_whole_one(self, name, number):
        strip = self.strips[name]
        fresh = plain_keep_on(self.writing, 0, number)
        strip["away"].append(strip["halves"])
        strip["halves"] = (fresh, fresh)

    def due_begin(self, name):
        due = []
        if type(name) is not str or re.fullmatch("[a-z]{1,8}", name) is None:
            due.append("NoName")
        if type(name) is str and name in self.strips:
            due.append("Taken")
        return due + (["TooMany"] if len(self.strips) == 20 else [])

    def do_begin(self, name):
        self.strips[name] = {"halves": (0, 0), "twin": None, "away": []}

    def due_write(self, name, number):
        due = self.unknown(name) + self.no_number(number) + self.unlike(name)
        return due + self.carried_and_lent(name, number)

    def do_write(self, name, number):
        self.to_take_back.append([(name, self.reads(name))])
        return self.put(name, number)

    def due_pay(self, one, other, amount):
        due = self.unknown(one) + self.unknown(other) + (["Same"] if one == other else [])
        right = type(amount) is int and 1 <= amount <= 99
        due += [] if right else ["NoNumber"]
        due += self.unlike(one, other)
        numbers = [self.reads(name) if name in self.strips else 0 for name in (one, other)]
        due += ["Nothing"] if None in numbers else []
        if type(amount) is not int:
            return due
        known = [name in self.strips and number is not None for name, number in zip((one, other), numbers)]
        if known[0] and numbers[0] < amount:
            due.append("Short")
        if known[1] and numbers[1] + amount > self.writing[1] - 1:
            due.append("Over")
        new = [(name, number + sign * amount) for name, number, sign, is_known
               in zip((one, other), numbers, (-1, 1), known) if is_known]
        due += ["NoNumber"] if any(self.no_number(number) for _, number in new) else []
        return due + (["Lent"] if any(self.carried_and_lent(name, number) for name, number in new) else [])

    def do_pay(self, one, other, amount):
        mine, yours = self.reads(one), self.reads(other)
        self.to_take_back.append([(one, mine), (other, yours)])
        return (self.put(one, mine - amount), self.put(other, yours + amount))

    def due_lend(self, name):
        return self.unknown(name) + self.unlike(name) + self.lent(name)

    def do_lend(self, name):
        self.strips[name]["twin"] = self.strips[name]["halves"][0]

    def due_write_twin(self, name, number):
        due = self.unknown(name) + self.not_lent(name) + self.no_number(number)
        if self.lent(name) and type(number) is int:
            due += [] if plain_ways(self.writing, self.strips[name]["twin"], number) else ["Spent"]
        return due

    def do_write_twin(self, name, number):
        self.strips[name]["twin"] = plain_keep_on(self.writing, self.strips[name]["twin"], number)

    def due_lay(self, name):
        return self.unknown(name) + self.not_lent(name) + self.unlike(name)

    def do_lay(self, name):
        strip = self.strips[name]
        both = sum(2 ** spot for spot in spots(strip["halves"][0]) | spots(strip["twin"]))
        strip["halves"], strip["twin"] = (both, both), None
        return self.writing[2][both]

    def due_cut_alone(self, name, half, some):
        due = self.unknown(name) + ([] if half in ("stock", "foil") else ["NoHalf"])
        cut = set()
        if name in self.strips and half in ("stock", "foil"):
            cut = spots(self.strips[name]["halves"][("stock", "foil").index(half)])
        wrong = [spot for spot in some if spot not in range(self.writing[0]) or spot in cut or some.count(spot) > 1]
        return due + (["NoSpot"] if wrong else [])

    def do_cut_alone(self, name, half, some):
        stock, foil = self.strips[name]["halves"]
        more = sum(2 ** spot for spot in some)
        self.strips[name]["halves"] = (stock + more, foil) if half == "stock" else (stock, foil + more)

    def due_settle(self, name):
        due = self.unknown(name)
        if self.unlike(name):
            due += ["Nothing"] if self.reads(name) is None else []
            due += self.lent(name)
        return due

    def do_settle(self, name):
        number = self.reads(name)
        stock, foil = [spots(half) for half in self.strips[name]["halves"]]
        if stock == foil:
            return ("same", number)
        self.put_on_a_whole_one(name, number)
        if stock > foil:
            return ("stock", number)
        return ("foil", number) if foil > stock else ("both", number)

    def could_be(self, name, tears):
        cut = spots(self.common(name))
        near = [low for low in range(2 ** self.writing[0]) if spots(low) <= cut and len(cut - spots(low)) <= tears]
        return {self.writing[2][low] for low in near} - {None}

    def due_mend(self, name, tears):
        due = self.unknown(name) + self.unlike(name) + self.lent(name)
        if name in self.strips:
            many = len(self.could_be(name, tears))
            due += ["Unsure"] if many > 1 else ["Nothing"] if many == 0 else []
        return due

    def do_mend(self, name, tears):
        [number] = self.could_be(name, tears)
        if self.reads(name) != number:
            self.put_on_a_whole_one(name, number)
        return number

    def due_back(self):
        if not self.to_take_back:
            return ["NoDeed"]
        changes = self.to_take_back[-1]
        due = self.unlike(*[name for name, _ in changes])
        due += ["Nothing"] if any(number is None for _, number in changes) else []
        return due + (["Lent"] if any(self.carried_and_lent(name, number) for name, number in changes) else [])

    def do_back(self):
        changes = self.to_take_back.pop()
        for name, number in changes:
            self.put(name, number)
        return [name for name, _ in changes]


def told_by(ledger, deed, *given):
    """What a ledger of the program tells, in the plain one's words."""
    try:
        return ("told", getattr(ledger, deed)(*given))
    except NotchError as refusal:
        return ("refused", type(refusal).__name__)


def view_of(ledger):
    """All that a ledger of the program tells of how it stands."""
    names = ledger.names()
    each = [(ledger.number(name), ledger.halves(name), ledger.twin(name), ledger.put_away(name)) for name in names]
    return (names, each, ledger.deeds(), ledger.at(ledger.deeds()))


class BothCase(unittest.TestCase):
    """For the program's ledger and the plain one side by side."""

    def begin_both(self, writing, pairs=None):
        self.ledger = Ledger(writing)
        self.plain = PlainLedger(writing, set() if pairs is None else pairs)

    def both(self, deed, *given):
        """Asks both for a deed, and looks that they tell the same and stand alike behind it."""
        before = repr(given)
        plain = self.plain.ask(deed, *given)
        self.assertEqual(repr(told_by(self.ledger, deed, *given)), repr(plain), (self.ledger.writing, deed, given))
        self.assertEqual(repr(view_of(self.ledger)), repr(self.plain.view()), (self.ledger.writing, deed, given))
        self.assertEqual(repr(given), before)
        return plain


def some_deed(writing, names, worths):
    """A deed without a pattern, mostly one that can be granted."""
    n, k = writing[0], writing[1]
    name, other = [names[next(worths) % len(names)] for _ in range(2)]
    number = next(worths) % k
    deeds = [
        ("begin", name), ("write", name, number), ("write", name, number), ("write", other, number),
        ("pay", name, other, 1 + next(worths) % 2), ("pay", name, other, 1 + number), ("lend", name),
        ("write_twin", name, number), ("lay", name), ("lay", other), ("settle", name), ("settle", other),
        ("cut_alone", name, ("stock", "foil")[next(worths) % 2], [next(worths) % n]),
        ("cut_alone", name, ("stock", "foil")[next(worths) % 2], list(range(next(worths) % (n + 1)))),
        ("mend", name, next(worths) % 3), ("mend", name, next(worths) % 9), ("back",), ("back",),
    ]
    return deeds[next(worths) % len(deeds)]
