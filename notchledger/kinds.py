"""What kind of thing was handed in, whatever it is."""

FIGURES = "0123456789"
SMALL_LETTERS = "abcdefghijklmnopqrstuvwxyz"
MOST_FIGURES = 3
MOST_LETTERS = 8


def is_number(thing):
    """Whether the thing is an int and neither True nor False."""
    # Python counts True and False among the ints; the document does not.
    return isinstance(thing, int) and not isinstance(thing, bool)


def is_between(thing, low, high):
    """Whether the thing is a number from low to high."""
    return is_number(thing) and low <= thing <= high


def is_rising(row):
    """Whether each thing in a list or tuple is greater than the one ahead of it."""
    return all([row[at - 1] < row[at] for at in range(1, len(row))])


def is_paper(thing, word, length):
    """Whether the thing is a tuple of this length that begins with the word."""
    return isinstance(thing, tuple) and len(thing) == length and thing[0] == word


def is_name(thing):
    """Whether the thing is a text of 1 to 8 small letters."""
    if not isinstance(thing, str) or not 1 <= len(thing) <= MOST_LETTERS:
        return False
    return all([sign in SMALL_LETTERS for sign in thing])


def is_figures(text):
    """Whether the text is a number of one to three figures, without a nought ahead."""
    if not 1 <= len(text) <= MOST_FIGURES or not all([sign in FIGURES for sign in text]):
        return False
    return text == "0" or text[0] != "0"
