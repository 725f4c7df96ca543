"""Copies of a strip that were cut apart and are laid on one another."""

from notchledger.cuts import laid, together
from notchledger.kinds import is_paper
from notchledger.writings import cuts_that_read, numbers_read, reading, reads_number, ways_up


def laying(writing, how):
    """("so",), or ("not", one, other) of two cuts by which the writing does not lay so: greater, either or honest."""
    written = cuts_that_read(writing)
    for one in written:
        for other in written:
            if not lays_so(writing, how, one, other):
                return ("not", one, other)
    return ("so",)


def lays_so(writing, how, one, other):
    """Whether two cuts that read numbers read together what this word asks for."""
    numbers = (reading(writing, one), reading(writing, other))
    read = reading(writing, together(one, other))
    if how == "greater":
        return read == max(numbers)
    if read is None:
        return how == "honest"
    return read in numbers


def right_not(writing, how, paper):
    """Whether the paper, whatever it is, shows two cuts by which the writing does not lay so."""
    if not is_paper(paper, "not", 3):
        return False
    one, other = paper[1:]
    if not reads_number(writing, one) or not reads_number(writing, other):
        return False
    return not lays_so(writing, how, one, other)


def tops(writing):
    """For each number that is read, rising, a tuple of it and all cuts that read it laid together."""
    return [(number, laid(ways_up(writing, 0, number))) for number in numbers_read(writing)]
