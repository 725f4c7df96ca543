"""Sealed writings, and what the holder of one half could make of it."""

from notchledger.cuts import holds
from notchledger.kinds import is_paper
from notchledger.writings import cuts_that_read, reading, reads_number


def sealing(writing):
    """("sealed",), or ("open", low, high) of two cuts that read numbers, high holding low."""
    written = cuts_that_read(writing)
    for low in written:
        for high in written:
            if opens(low, high):
                return ("open", low, high)
    return ("sealed",)


def opens(low, high):
    """Whether high holds low and is unlike it."""
    return low != high and holds(high, low)


def right_open(writing, paper):
    """Whether the paper, whatever it is, shows two cuts by which the writing is not sealed."""
    if not is_paper(paper, "open", 3):
        return False
    low, high = paper[1:]
    return reads_number(writing, low) and reads_number(writing, high) and opens(low, high)


def could_read(writing, cuts):
    """The numbers that some cuts read which hold these and are unlike them, a rising list."""
    table = writing[2]
    above = [table[up] for up in range(len(table)) if opens(cuts, up)]
    return sorted({number for number in above if number is not None})


def compared(writing, stock, foil):
    """Which half has further cuts, the cuts that both have, and what these read."""
    common = stock & foil
    return (compared_word(stock, foil), common, reading(writing, common))


def compared_word(stock, foil):
    """Which half has further cuts: "stock" or "foil" alone, "both", or "same" if none has."""
    if stock == foil:
        return "same"
    if holds(stock, foil):
        return "stock"
    if holds(foil, stock):
        return "foil"
    return "both"
