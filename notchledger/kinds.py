"""What kind of thing was handed in, whatever it is."""


def is_number(thing):
    """Whether the thing is an int and neither True nor False."""
    # Python counts True and False among the ints; the document does not.
    return isinstance(thing, int) and not isinstance(thing, bool)


def is_between(thing, low, high):
    """Whether the thing is a number from low to high."""
    return is_number(thing) and low <= thing <= high


def is_rising(row):
    """Whether each thing in a list or tuple is greater than the one ahead of it."""
    return all([row[at - 1] < row[at] for at in range(1, len(row))])


def is_paper(thing, word, length):
    """Whether the thing is a tuple of this length that begins with the word."""
    return isinstance(thing, tuple) and len(thing) == length and thing[0] == word
