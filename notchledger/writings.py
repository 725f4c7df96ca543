"""Writings, tuples (n, k, table), and the ways up to a number in them."""

from notchledger.cuts import all_cuts, further, holds
from notchledger.errors import NoWriting
from notchledger.kinds import is_between

MOST_SPOTS = 8
FEWEST_NUMBERS = 2
MOST_NUMBERS = 100


def made_writing(n, k, table):
    """The writing of these three, whatever they are; refused with NoWriting."""
    if not is_between(n, 1, MOST_SPOTS):
        raise NoWriting()
    if not is_between(k, FEWEST_NUMBERS, MOST_NUMBERS):
        raise NoWriting()
    if not is_table(n, k, table):
        raise NoWriting()
    return (n, k, table)


def is_table(n, k, table):
    """Whether the table, whatever it is, is one for n spots and k numbers."""
    if not isinstance(table, tuple) or len(table) != (1 << n):
        return False
    return all([thing is None or is_between(thing, 0, k - 1) for thing in table])


def in_order(n, some):
    """The writing of n spots by which these cuts read 0, 1 and so on, all others nothing."""
    readings = {cuts: number for number, cuts in enumerate(some)}
    return (n, len(some), tuple([readings.get(cuts) for cuts in all_cuts(n)]))


def is_cuts(writing, thing):
    """Whether the thing, whatever it is, is cuts of the writing's spots."""
    return is_between(thing, 0, len(writing[2]) - 1)


def reading(writing, cuts):
    """The number that the cuts read, or None."""
    table = writing[2]
    # Cuts somewhat beyond the strip's spots are no error; no table tells of them.
    if not 0 <= cuts < len(table):
        return None
    return table[cuts]


def reads_number(writing, thing):
    """Whether the thing, whatever it is, is cuts that read a number."""
    return is_cuts(writing, thing) and reading(writing, thing) is not None


def cuts_that_read(writing):
    """All cuts that read a number, a rising list."""
    table = writing[2]
    return [cuts for cuts in range(len(table)) if table[cuts] is not None]


def numbers_read(writing):
    """The numbers that some cuts read, a rising list."""
    table = writing[2]
    return [number for number in range(writing[1]) if number in table]


def ways_up(writing, cuts, number):
    """All cuts that hold these and read the number, a rising list."""
    table = writing[2]
    return [up for up in range(len(table)) if table[up] == number and holds(up, cuts)]


def least_up(writing, cuts, number):
    """The ways up that hold no other way up, a rising list."""
    ways = ways_up(writing, cuts, number)
    return [up for up in ways if not holds_another(up, ways)]


def holds_another(up, ways):
    """Whether these cuts hold one of the ways that is unlike them."""
    return any([way != up and holds(up, way) for way in ways])


def nearest(writing, cuts, number):
    """The way up with the fewest further cuts, of several the least, or None."""
    best = None
    for up in ways_up(writing, cuts, number):
        # The ways rise, so the least of several alike is the one met first.
        if best is None or further(up, cuts) < further(best, cuts):
            best = up
    return best
