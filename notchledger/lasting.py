"""How long cuts last, with a plan or an end that shows it."""

from notchledger.askings import may_be_asked
from notchledger.cuts import further, holds
from notchledger.writings import least_up, reading, ways_up


def lasting(writing, askings, cuts, turns):
    """("lasts", plan) or ("ends", end), whether these cuts last so many turns."""
    found = most_turns(writing, askings, cuts)
    if found[cuts] >= min(turns, for_ever(writing)):
        return ("lasts", plan_of(writing, askings, cuts, turns, found))
    return ("ends", end_of(writing, askings, cuts, turns, found))


def how_long(writing, askings, cuts):
    """The most turns that these cuts last, a plan of these and an end of one more; (None, plan, None) for ever."""
    found = most_turns(writing, askings, cuts)
    turns = found[cuts]
    plan = plan_of(writing, askings, cuts, turns, found)
    if turns == for_ever(writing):
        return (None, plan, None)
    return (turns, plan, end_of(writing, askings, cuts, turns + 1, found))


def keep_on(writing, askings, cuts, number):
    """The way up to the number that lasts longest, then with the fewest further cuts, then the least; or None."""
    return longest(cuts, ways_up(writing, cuts, number), most_turns(writing, askings, cuts))


def for_ever(writing):
    """So many turns stand for all: each takes a further cut, so what lasts these lasts any."""
    return writing[0] + 1


def most_turns(writing, askings, cuts):
    """For these cuts and all that hold them the most turns that they last, at most those that stand for ever."""
    found = {}
    # All spots cut come first: what cuts last is told by those above them alone.
    for low in reversed(all_holding(writing, cuts)):
        ways = ways_by_number(writing, low)
        asked = may_be_asked(writing, askings, low)
        found[low] = min([turns_if_asked(ways, number, found) for number in asked] + [for_ever(writing)])
    return found


def all_holding(writing, cuts):
    """All cuts that hold these, a rising list."""
    ups = [cuts]
    for spot in range(writing[0]):
        if not holds(cuts, 1 << spot):
            ups = ups + [up + (1 << spot) for up in ups]
    return ups


def ways_by_number(writing, cuts):
    """The ways up from these cuts, a rising list for each number that has some."""
    ways = {}
    for up in all_holding(writing, cuts):
        number = reading(writing, up)
        if number is not None:
            ways[number] = ways.get(number, [])
            ways[number].append(up)
    return ways


def turns_if_asked(ways, number, found):
    """How many turns can be answered if the number is asked first."""
    return max([found[up] + 1 for up in ways.get(number, [])], default=0)


def longest(cuts, ways, found):
    """Of these ways up from the cuts the one that lasts longest, the nearest of several, then the least; or None."""
    return min(ways, key=lambda up: (-found[up], further(up, cuts), up), default=None)


def plan_of(writing, askings, cuts, turns, found):
    """A plan for cuts that last so many turns."""
    rows = []
    standing = [cuts]
    for turn in range(turns):
        row = [(low, best_answers(writing, askings, low, found)) for low in standing]
        rows.append(tuple(row))
        standing = sorted({answer for low, answers in row for answer in answers})
    return tuple(rows)


def best_answers(writing, askings, cuts, found):
    """The longest lasting way up to each number that may be asked."""
    ways = ways_by_number(writing, cuts)
    return tuple([longest(cuts, ways[number], found) for number in may_be_asked(writing, askings, cuts)])


def end_of(writing, askings, cuts, turns, found):
    """An end of cuts that don't last so many turns."""
    rows = []
    standing = [cuts]
    for left in range(turns, 0, -1):
        row = [(left, low, hardest(writing, askings, low, found)) for low in standing]
        rows = row + rows
        # What holds a least way up lasts no longer than it, so the least ones are enough.
        standing = sorted({up for turn, low, number in row for up in least_up(writing, low, number)})
    return tuple(rows)


def hardest(writing, askings, cuts, found):
    """Of the numbers that may be asked the one that can be answered for the fewest turns."""
    ways = ways_by_number(writing, cuts)
    return min(may_be_asked(writing, askings, cuts), key=lambda number: turns_if_asked(ways, number, found))
