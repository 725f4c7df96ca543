"""The text of a writing, written and read."""

from notchledger.errors import NoText, NoWriting
from notchledger.kinds import is_figures
from notchledger.writings import made_writing

NO_NUMBER = "-"


def writing_text(writing):
    """The writing's text."""
    n, k, table = writing
    words = [NO_NUMBER if number is None else str(number) for number in table]
    return " ".join(["strip", str(n), str(k)]) + "\n" + " ".join(words) + "\n"


def read_writing(thing):
    """The writing whose text the thing, whatever it is, is; refused with NoText."""
    if not isinstance(thing, str):
        raise NoText()
    rows = thing.split("\n")
    if len(rows) != 3 or rows[2] != "":
        raise NoText()
    head, words = rows[0].split(" "), rows[1].split(" ")
    if not is_head(head) or not all([is_word(word) for word in words]):
        raise NoText()
    table = tuple([None if word == NO_NUMBER else int(word) for word in words])
    try:
        return made_writing(int(head[1]), int(head[2]), table)
    except NoWriting:
        raise NoText() from None


def is_head(words):
    """Whether the words are those of a text's first row."""
    return len(words) == 3 and words[0] == "strip" and is_figures(words[1]) and is_figures(words[2])


def is_word(word):
    """Whether the word may stand in a text's second row."""
    return word == NO_NUMBER or is_figures(word)
