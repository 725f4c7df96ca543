"""Two holders who each cut spots of their own, and whether what they wrote adds up."""

from notchledger.cuts import holds, spots_of, together
from notchledger.kinds import is_paper
from notchledger.writings import cuts_that_read, reading, reads_number


def summing(writing, mine, yours):
    """("so",), or ("not", cuts, one, other): one is cut on by mine, other by yours, and they don't add up."""
    for cuts in cuts_that_read(writing):
        others = all_cut_on(writing, cuts, yours)
        for one in all_cut_on(writing, cuts, mine):
            for other in others:
                if not adds_up(writing, cuts, one, other):
                    return ("not", cuts, one, other)
    return ("so",)


def all_cut_on(writing, cuts, spots):
    """All cuts that read a number and were cut on from these by some of the spots, a rising list."""
    return [up for up in cuts_that_read(writing) if is_cut_on(cuts, spots, up)]


def is_cut_on(cuts, spots, up):
    """Whether up holds these cuts and its further cuts are all of the spots."""
    return holds(up, cuts) and all([spot in spots for spot in spots_of(up - cuts)])


def adds_up(writing, cuts, one, other):
    """Whether one and other together read both's numbers less that of the cuts that they were cut on from."""
    added = reading(writing, one) + reading(writing, other) - reading(writing, cuts)
    return reading(writing, together(one, other)) == added % writing[1]


def right_apart(writing, mine, yours, paper):
    """Whether the paper, whatever it is, shows cuts that don't add up."""
    if not is_paper(paper, "not", 4) or not all([reads_number(writing, thing) for thing in paper[1:]]):
        return False
    cuts, one, other = paper[1:]
    if not is_cut_on(cuts, mine, one) or not is_cut_on(cuts, yours, other):
        return False
    return not adds_up(writing, cuts, one, other)
