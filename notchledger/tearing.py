"""Tears: spots that were cut by no one, which tears a writing finds and which it mends."""

from notchledger.cuts import all_cuts, further, holds, together
from notchledger.errors import Unsure
from notchledger.kinds import is_paper
from notchledger.writings import cuts_that_read, is_cuts, reading, reads_number


def within(tears, torn, cuts):
    """Whether the torn cuts are within so many tears of these."""
    return holds(torn, cuts) and further(torn, cuts) <= tears


def finding(writing, tears):
    """("finds",), or ("missed", low, high) of cuts that read unlike numbers, high within the tears of low."""
    written = cuts_that_read(writing)
    for low in written:
        for high in written:
            if is_missed(writing, tears, low, high):
                return ("missed", low, high)
    return ("finds",)


def is_missed(writing, tears, low, high):
    """Whether low can tear to high, and these read unlike numbers."""
    return reading(writing, low) != reading(writing, high) and within(tears, high, low)


def right_missed(writing, tears, paper):
    """Whether the paper, whatever it is, shows tears that the writing does not find."""
    if not is_paper(paper, "missed", 3):
        return False
    low, high = paper[1:]
    if not reads_number(writing, low) or not reads_number(writing, high):
        return False
    return is_missed(writing, tears, low, high)


def behind(writing, tears, cuts):
    """The numbers of all cuts that read one and can tear to these, a rising list."""
    return sorted({reading(writing, low) for low in cuts_that_read(writing) if within(tears, cuts, low)})


def mending(writing, tears):
    """("mends",), or ("unsure", one, other, torn) of cuts that read unlike numbers and torn ones within both's."""
    written = cuts_that_read(writing)
    for one in written:
        for other in written:
            # Whatever both can tear to holds the cuts of both, so these are the first to look at.
            torn = together(one, other)
            if is_unsure(writing, tears, one, other, torn):
                return ("unsure", one, other, torn)
    return ("mends",)


def is_unsure(writing, tears, one, other, torn):
    """Whether one and other can both tear to torn, and read unlike numbers."""
    if reading(writing, one) == reading(writing, other):
        return False
    return within(tears, torn, one) and within(tears, torn, other)


def right_unsure(writing, tears, paper):
    """Whether the paper, whatever it is, shows tears that the writing does not mend."""
    if not is_paper(paper, "unsure", 4):
        return False
    one, other, torn = paper[1:]
    if not reads_number(writing, one) or not reads_number(writing, other) or not is_cuts(writing, torn):
        return False
    return is_unsure(writing, tears, one, other, torn)


def mended(writing, tears, cuts):
    """The number behind the cuts, None if there is none; refused with Unsure."""
    numbers = behind(writing, tears, cuts)
    if len(numbers) > 1:
        raise Unsure()
    return numbers[0] if numbers else None


def tear_room(writing, tears):
    """Over all cuts that read a number, the sum of how many cuts these can tear to."""
    every = all_cuts(writing[0])
    return sum([1 for cuts in cuts_that_read(writing) for torn in every if within(tears, torn, cuts)])
