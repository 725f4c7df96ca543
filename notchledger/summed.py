"""Writings that mend one tear, by the sum of the cut spots."""

from notchledger.cuts import all_cuts, spots_of
from notchledger.writings import in_order


def summed(n, rest):
    """The cuts whose sum of spot + 1 leaves this rest, divided by n + 1, read 0, 1 and so on, others nothing."""
    # A strip of fewer spots than none is no error, so what is divided by is 1 at least.
    return in_order(n, [cuts for cuts in all_cuts(n) if spot_sum(cuts) % max(n + 1, 1) == rest])


def spot_sum(cuts):
    """The sum of spot + 1 over the cut spots."""
    return sum([spot + 1 for spot in spots_of(cuts)])
