"""Askings: for each number, and last for nothing, the numbers that may be asked while it stands."""

from notchledger.errors import NoAskings
from notchledger.kinds import is_between, is_rising
from notchledger.writings import FEWEST_NUMBERS, MOST_NUMBERS, reading


def made_askings(k, rows):
    """The askings for k numbers of these rows, whatever they are; refused with NoAskings."""
    if not is_between(k, FEWEST_NUMBERS, MOST_NUMBERS):
        raise NoAskings()
    if not isinstance(rows, tuple) or len(rows) != k + 1:
        raise NoAskings()
    if not all([is_row(k, place, row) for place, row in enumerate(rows)]):
        raise NoAskings()
    return rows


def is_row(k, place, row):
    """Whether the row, whatever it is, may stand at this place of askings for k numbers."""
    if not isinstance(row, tuple) or not all([is_between(thing, 0, k - 1) for thing in row]):
        return False
    # The last place is k, which is no number: while nothing stands none is barred.
    return is_rising(row) and place not in row


def any_number(k):
    """All others may be asked, while nothing stands all."""
    rows = [tuple([other for other in range(k) if other != number]) for number in range(k)]
    return with_all_last(rows)


def by_one(k):
    """One less and one more may be asked, while nothing stands all."""
    rows = [tuple([other for other in range(k) if abs(other - number) == 1]) for number in range(k)]
    return with_all_last(rows)


def around(k):
    """As by_one, but 0 and k - 1 are beside one another, too."""
    rows = [tuple([other for other in range(k) if abs(other - number) in (1, k - 1)]) for number in range(k)]
    return with_all_last(rows)


def with_all_last(rows):
    """Askings of these rows, one for each number, and of all numbers while nothing stands."""
    return (*rows, tuple(range(len(rows))))


def one_up(k):
    """One more may be asked, none while k - 1 stands, and 0 while nothing stands."""
    rows = [(number,) for number in range(1, k)]
    return (*rows, (), (0,))


def may_be_asked(writing, askings, cuts):
    """The numbers that may be asked while what these cuts read, or nothing, stands."""
    stands = reading(writing, cuts)
    if stands is None:
        return askings[writing[1]]
    return askings[stands]
