"""A ledger: accounts that are kept on strips by one writing."""

from notchledger.askings import any_number
from notchledger.cuts import holds, together
from notchledger.errors import (
    Lent, NoDeed, NoHalf, NoName, NoNumber, NoSpot, NotLent, Nothing, Over, Same, Short, Spent, Taken, TooMany,
    Unknown, Unlike,
)
from notchledger.kinds import is_between, is_name, is_number
from notchledger.lasting import longest, most_turns
from notchledger.sealing import compared
from notchledger.tearing import mended
from notchledger.writings import numbers_read, reading, ways_up

MOST_ACCOUNTS = 20
MOST_DEEDS = 200
MOST_AMOUNT = 99
HALVES = ("stock", "foil")


class Account:
    """The two halves of a strip, the cuts of its twin if one was lent out, and the strips that were put away."""

    def __init__(self):
        self.stock = 0
        self.foil = 0
        self.lent = None
        self.away = []

    def must_be_alike(self):
        """Refused with Unlike if the halves are not alike."""
        if self.stock != self.foil:
            raise Unlike()

    def must_be_lent(self):
        """Refused with NotLent if there is no twin."""
        if self.lent is None:
            raise NotLent()

    def must_not_be_lent(self):
        """Refused with Lent if there is a twin."""
        if self.lent is not None:
            raise Lent()

    def cut_both(self, cuts):
        """Both halves have these cuts from now on."""
        self.stock = cuts
        self.foil = cuts

    def start_new(self, cuts):
        """The strip is put away, and a new one with these cuts comes in its place."""
        self.away.append((self.stock, self.foil))
        self.cut_both(cuts)


class Ledger:
    """Accounts on strips by one writing, any other number of which may be written."""

    def __init__(self, writing):
        self.writing = writing
        # What cuts last is told by the writing alone, so it is found once and not at each deed.
        self.turns = most_turns(writing, any_number(writing[1]), 0)
        self.accounts = {}
        # For each write or pay that can be taken back, its accounts' names and the numbers that they had ahead of it.
        self.ahead = []
        # For each number of deeds, from 0 on, the accounts' numbers behind these.
        self.history = [[]]

    def begin(self, name):
        """A new account, its strip whole."""
        self.must_have_room()
        if not is_name(name):
            raise NoName()
        if name in self.accounts:
            raise Taken()
        if len(self.accounts) >= MOST_ACCOUNTS:
            raise TooMany()
        self.accounts[name] = Account()
        self.count_deed()

    def names(self):
        """The names of all accounts, sorted."""
        return sorted(self.accounts)

    def number(self, name):
        """What the cuts read that both halves have, or None."""
        account = self.known(name)
        return reading(self.writing, account.stock & account.foil)

    def halves(self, name):
        """The cuts of the stock and of the foil."""
        account = self.known(name)
        return (account.stock, account.foil)

    def twin(self, name):
        """The twin's cuts, or None."""
        return self.known(name).lent

    def put_away(self, name):
        """The strips that were put away, as tuples (stock, foil), the eldest first."""
        return list(self.known(name).away)

    def write(self, name, number):
        """Writes the number; whether the strip was carried."""
        account = self.to_change(name)
        self.must_be_read(number)
        account.must_be_alike()
        return self.write_all([(name, number)])[0]

    def pay(self, one, other, amount):
        """Writes one's number less the amount, and other's and the amount together; whether each was carried."""
        payer = self.to_change(one)
        payee = self.to_change(other)
        if one == other:
            raise Same()
        if not is_between(amount, 1, MOST_AMOUNT):
            raise NoNumber()
        payer.must_be_alike()
        payee.must_be_alike()
        mine, yours = self.number(one), self.number(other)
        if mine is None or yours is None:
            raise Nothing()
        if mine < amount:
            raise Short()
        if yours + amount > self.writing[1] - 1:
            raise Over()
        self.must_be_read(mine - amount)
        self.must_be_read(yours + amount)
        return tuple(self.write_all([(one, mine - amount), (other, yours + amount)]))

    def lend(self, name):
        """The account has a twin from now on, with its cuts."""
        account = self.to_change(name)
        account.must_be_alike()
        account.must_not_be_lent()
        account.lent = account.stock
        self.count_deed()

    def write_twin(self, name, number):
        """Writes the number on the twin."""
        account = self.to_change(name)
        account.must_be_lent()
        self.must_be_read(number)
        up = self.way_up(account.lent, number)
        if up is None:
            raise Spent()
        account.lent = up
        self.count_deed()

    def lay(self, name):
        """Lays the twin on the strip; what is read then, or None."""
        account = self.to_change(name)
        account.must_be_lent()
        account.must_be_alike()
        account.cut_both(together(account.stock, account.lent))
        account.lent = None
        self.count_deed()
        return self.number(name)

    def cut_alone(self, name, half, spots):
        """Cuts these spots of one half, the stock or the foil."""
        account = self.to_change(name)
        if half not in HALVES:
            raise NoHalf()
        if half == "stock":
            account.stock = cut_further(self.writing, account.stock, spots)
        else:
            account.foil = cut_further(self.writing, account.foil, spots)
        self.count_deed()

    def settle(self, name):
        """Which half has further cuts, and the number that both have, which is written on a whole strip then."""
        account = self.to_change(name)
        word, common, number = compared(self.writing, account.stock, account.foil)
        if word != "same":
            if number is None:
                raise Nothing()
            account.must_not_be_lent()
            self.carry(account, number)
        self.count_deed()
        return (word, number)

    def mend(self, name, tears):
        """The number behind the cuts, which is written on a whole strip if these don't read it."""
        account = self.to_change(name)
        account.must_be_alike()
        account.must_not_be_lent()
        number = mended(self.writing, tears, account.stock)
        if number is None:
            raise Nothing()
        if self.number(name) != number:
            self.carry(account, number)
        self.count_deed()
        return number

    def back(self):
        """Takes back the last write or pay; the names of its accounts."""
        self.must_have_room()
        if len(self.ahead) == 0:
            raise NoDeed()
        changes = self.ahead[-1]
        for name, number in changes:
            self.known(name).must_be_alike()
        if any([number is None for name, number in changes]):
            raise Nothing()
        self.change(changes)
        self.ahead.pop()
        self.count_deed()
        return [name for name, number in changes]

    def deeds(self):
        """How many deeds were granted."""
        return len(self.history) - 1

    def at(self, many):
        """The accounts behind so many deeds, as tuples (name, number), by names."""
        # Somewhat more or fewer deeds than there were are no error: the nearest ones are told.
        return list(self.history[max(0, min(many, self.deeds()))])

    def known(self, name):
        """The account of that name; refused with Unknown."""
        if name not in self.accounts:
            raise Unknown()
        return self.accounts[name]

    def must_have_room(self):
        """Refused with TooMany if no further deed is granted."""
        if self.deeds() >= MOST_DEEDS:
            raise TooMany()

    def to_change(self, name):
        """The account of that name for one more deed; refused with TooMany, then with Unknown."""
        self.must_have_room()
        return self.known(name)

    def count_deed(self):
        """One more deed was granted; how the accounts stand behind it is kept."""
        self.history.append([(name, self.number(name)) for name in self.names()])

    def must_be_read(self, thing):
        """Refused with NoNumber if the thing, whatever it is, is no number that some cuts read."""
        if not is_number(thing) or thing not in numbers_read(self.writing):
            raise NoNumber()

    def way_up(self, cuts, number):
        """The cuts that keep_on tells, by any_number, or None."""
        return longest(cuts, ways_up(self.writing, cuts, number), self.turns)

    def write_all(self, changes):
        """Changes the accounts in a way that can be taken back; which were carried."""
        ahead = [(name, self.number(name)) for name, number in changes]
        carried = self.change(changes)
        self.ahead.append(ahead)
        self.count_deed()
        return carried

    def change(self, changes):
        """Puts each number on its account's strip, and tells which were carried; refused with Lent."""
        for name, number in changes:
            account = self.known(name)
            if self.way_up(account.stock, number) is None:
                account.must_not_be_lent()
        return [self.put(self.known(name), number) for name, number in changes]

    def put(self, account, number):
        """Cuts the strip on to the number; whether it had to be carried."""
        # Where the number stands nothing is cut: no way up lasts longer than the cuts themselves.
        up = self.way_up(account.stock, number)
        if up is None:
            self.carry(account, number)
            return True
        account.cut_both(up)
        return False

    def carry(self, account, number):
        """Puts the strip away and writes the number on a whole one."""
        account.start_new(self.way_up(0, number))


def cut_further(writing, cuts, spots):
    """The cuts with these spots cut, too; refused with NoSpot."""
    total = cuts
    for spot in spots:
        # A spot that stands twice in the list is cut already when it comes again.
        if not is_between(spot, 0, writing[0] - 1) or holds(total, 1 << spot):
            raise NoSpot()
        total = together(total, 1 << spot)
    return total
