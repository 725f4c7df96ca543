"""Writings made by a rule: by weights, by labels, by how many spots are cut."""

from notchledger.cuts import spots_of
from notchledger.errors import NoWriting
from notchledger.kinds import is_between
from notchledger.writings import FEWEST_NUMBERS, MOST_NUMBERS, MOST_SPOTS, made_writing

MOST_SIZE = 6
FEWEST_TWICE = 3


def weighed(weights, k):
    """Cuts read the sum of the weights of the cut spots, less k as often as it goes; refused with NoWriting."""
    if not is_between(k, FEWEST_NUMBERS, MOST_NUMBERS) or not are_for_spots(weights, k):
        raise NoWriting()
    n = len(weights)
    sums = [sum([weights[spot] for spot in spots_of(cuts)]) for cuts in range(1 << n)]
    return made_writing(n, k, tuple([total % k for total in sums]))


def crossed(labels, size):
    """Cuts read the figures that are 1 in an odd number of the cut spots' labels; refused with NoWriting."""
    if not is_between(size, 1, MOST_SIZE) or not are_for_spots(labels, 1 << size):
        raise NoWriting()
    n = len(labels)
    table = [crossing([labels[spot] for spot in spots_of(cuts)]) for cuts in range(1 << n)]
    return made_writing(n, 1 << size, tuple(table))


def are_for_spots(things, k):
    """Whether the things, whatever they are, are a list of numbers below k, one for each spot of a strip."""
    if not isinstance(things, list) or not is_between(len(things), 1, MOST_SPOTS):
        return False
    return all([is_between(thing, 0, k - 1) for thing in things])


def crossing(labels):
    """The number in whose binary figures is 1 what is 1 in an odd number of the labels."""
    number = 0
    for label in labels:
        number = number ^ label
    return number


def unary(n):
    """The first j spots alone read j, other cuts nothing; refused with NoWriting."""
    if not is_between(n, 1, MOST_SPOTS):
        raise NoWriting()
    return by_readings(n, {(1 << j) - 1: j for j in range(n + 1)})


def twice(n):
    """Each number is read twice: 0 by no cuts and all, i + 1 by spot i alone and all but it; refused with NoWriting."""
    if not is_between(n, FEWEST_TWICE, MOST_SPOTS):
        raise NoWriting()
    full = (1 << n) - 1
    readings = {0: 0, full: 0}
    for spot in range(n):
        readings[1 << spot] = spot + 1
        readings[full - (1 << spot)] = spot + 1
    return by_readings(n, readings)


def by_readings(n, readings):
    """The writing of n + 1 numbers by which cuts read what a dict tells of them, else nothing."""
    return made_writing(n, n + 1, tuple([readings.get(cuts) for cuts in range(1 << n)]))


def copies(k, turns):
    """Weighed with each weight from 1 to k - 1 so many times; refused with NoWriting."""
    if not is_between(k, FEWEST_NUMBERS, MOST_NUMBERS) or not is_between(turns, 1, MOST_SPOTS):
        raise NoWriting()
    return weighed([weight for weight in range(1, k) for turn in range(turns)], k)
