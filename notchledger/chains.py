"""Chains that cover all cuts of a strip, and sealed writings of as many numbers as there can be."""

from notchledger.cuts import all_cuts, holds, how_many
from notchledger.errors import TooMany
from notchledger.kinds import is_between
from notchledger.writings import MOST_SPOTS, in_order


def right_chains(n, paper):
    """Whether the paper, whatever it is, is chains of n spots."""
    every = all_cuts(n)
    if not isinstance(paper, tuple) or not all([is_chain(every[-1], chain) for chain in paper]):
        return False
    return sorted([cuts for chain in paper for cuts in chain]) == every


def is_chain(last, chain):
    """Whether the chain, whatever it is, is of cuts up to the last ones, each but the first holding the one ahead."""
    if not isinstance(chain, tuple) or len(chain) == 0:
        return False
    if not all([is_between(cuts, 0, last) for cuts in chain]):
        return False
    return all([holds(chain[at], chain[at - 1]) for at in range(1, len(chain))])


def chains_of(n):
    """Chains of n spots, as few as any have."""
    chains = [(0,)]
    for spot in range(n):
        chains = [longer for chain in chains for longer in with_spot(chain, 1 << spot)]
    return tuple(chains)


def with_spot(chain, cut):
    """Chains of the chain's cuts and of these with one more cut: one that is longer than it, one that is shorter."""
    # The longer one ends with all it can; so each chain goes through the cuts of n // 2 spots, once,
    # and there are no more chains than such cuts. The shorter one may come to nothing.
    long = (*chain, chain[-1] + cut)
    short = tuple([cuts + cut for cuts in chain[:-1]])
    return [long, short] if short else [long]


def middle_cuts(n):
    """The cuts in which n // 2 spots are cut, a rising list."""
    return [cuts for cuts in all_cuts(n) if how_many(cuts) == n // 2]


def sealed_of(n, k):
    """The sealed writing of n spots and k numbers by cuts of n // 2 spots; refused with TooMany."""
    middle = middle_cuts(n)
    if len(middle) < k:
        raise TooMany()
    return in_order(n, middle[:k])


def fewest_sealed(k):
    """The fewest spots of a sealed writing of k numbers, it, and chains of one spot less; refused with TooMany."""
    if k > len(middle_cuts(MOST_SPOTS)):
        raise TooMany()
    n = 1
    while len(middle_cuts(n)) < k:
        n += 1
    return (n, sealed_of(n, k), chains_of(n - 1))
