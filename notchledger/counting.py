"""How long no writing lasts, by counting, and writings that last so long."""

from notchledger.errors import NoWriting
from notchledger.made import copies, twice, weighed
from notchledger.writings import MOST_SPOTS


def counted(n, k, turns):
    """Whether counting bars every writing of n spots and k numbers from lasting so many turns."""
    # Below one turn nothing is asked, so there is nothing to count.
    if turns < 1:
        return False
    return turns > n or power(k, turns) > power(turns + 1, n)


def power(base, times):
    """The base, so many times itself."""
    total = 1
    for step in range(times):
        total = total * base
    return total


def spots_between(k, turns):
    """The least spots that counting does not bar, and some writing that lasts the turns; refused with NoWriting."""
    return (least_spots(k, turns), lasting_writing(k, turns))


def least_spots(k, turns):
    """The least number of spots, from 1 on, that is not barred."""
    n = 1
    while counted(n, k, turns):
        n += 1
    return n


def lasting_writing(k, turns):
    """Some writing of k numbers that lasts so many turns; refused with NoWriting."""
    # Turns below those of the document are no error: any writing lasts none.
    if turns < 1:
        return weighed([0], k)
    if (k - 1) * turns <= MOST_SPOTS:
        return copies(k, turns)
    if turns <= 2 and 4 <= k <= 9:
        return twice(k - 1)
    raise NoWriting()
