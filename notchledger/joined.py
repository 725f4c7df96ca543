"""Writings made of others: joined, or changed in their spots or numbers."""

from notchledger.cuts import spots_of
from notchledger.errors import NoWriting
from notchledger.kinds import is_between
from notchledger.writings import FEWEST_NUMBERS, MOST_NUMBERS, MOST_SPOTS, made_writing


def beside(one, other):
    """One's spots and behind them other's, each pair of their numbers a number; refused with NoWriting."""
    n = one[0] + other[0]
    k = one[1] * other[1]
    if n > MOST_SPOTS or k > MOST_NUMBERS:
        raise NoWriting()
    table = [paired(mine, yours, other[1]) for yours in other[2] for mine in one[2]]
    return made_writing(n, k, tuple(table))


def paired(mine, yours, k):
    """The number of a pair whose second is one of k numbers; nothing if one of the two is nothing."""
    if mine is None or yours is None:
        return None
    return mine * k + yours


def later(one, other):
    """One's spots and behind them other's; once some of other's is cut other alone is read; refused with NoWriting."""
    n = one[0] + other[0]
    if n > MOST_SPOTS or one[1] != other[1]:
        raise NoWriting()
    overwritten = [yours for yours in other[2][1:] for mine in one[2]]
    return made_writing(n, one[1], one[2] + tuple(overwritten))


def blank(writing):
    """The same, but where no spot is cut nothing is read."""
    n, k, table = writing
    return made_writing(n, k, (None,) + table[1:])


def fewer(writing, k):
    """The first k numbers alone; where others were read nothing is; refused with NoWriting."""
    if not is_between(k, FEWEST_NUMBERS, writing[1]):
        raise NoWriting()
    table = [number if is_between(number, 0, k - 1) else None for number in writing[2]]
    return made_writing(writing[0], k, tuple(table))


def padded(writing, more):
    """So many spots behind that change nothing of what is read; refused with NoWriting."""
    n, k, table = writing
    if not is_between(more, 0, MOST_SPOTS - n):
        raise NoWriting()
    return made_writing(n + more, k, table * (1 << more))


def renamed(writing, spots, numbers):
    """What was spot i is spot spots[i], what was read as j is numbers[j]; refused with NoWriting."""
    n, k, table = writing
    if not is_order(spots, n) or not is_order(numbers, k):
        raise NoWriting()
    readings = {moved(cuts, spots): number for cuts, number in enumerate(table)}
    in_order = [readings[cuts] for cuts in range(len(table))]
    return made_writing(n, k, tuple([None if number is None else numbers[number] for number in in_order]))


def is_order(things, many):
    """Whether the things, whatever they are, are a list of each number from 0 to many - 1 once."""
    if not isinstance(things, list) or not all([is_between(thing, 0, many - 1) for thing in things]):
        return False
    return sorted(things) == list(range(many))


def moved(cuts, spots):
    """The cuts with each spot i moved to spots[i]."""
    return sum([1 << spots[spot] for spot in spots_of(cuts)])
