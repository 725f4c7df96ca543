"""Cuts: the cut spots of a strip, told as the sum of 2 to the power of each."""


def all_cuts(n):
    """All cuts of n spots, a rising list."""
    # Spots below those of a strip are no error: then there is nothing to cut.
    return list(range(1 << max(n, 0)))


def spots_of(cuts):
    """The cut spots, a rising list."""
    spots = []
    spot = 0
    while (cuts >> spot) > 0:
        if (cuts >> spot) & 1 == 1:
            spots.append(spot)
        spot += 1
    return spots


def how_many(cuts):
    """How many spots are cut."""
    return len(spots_of(cuts))


def holds(one, other):
    """Whether each spot that is cut in other is cut in one, too."""
    return (one & other) == other


def further(one, other):
    """How many spots are cut in one and not in other."""
    return how_many(one - (one & other))


def together(one, other):
    """The cuts of both."""
    return one | other


def laid(some):
    """The cuts of all of a list of cuts together, 0 of none."""
    total = 0
    for cuts in some:
        total = together(total, cuts)
    return total
