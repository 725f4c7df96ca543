"""A desk: texts are said to it, and it tells what its ledger answers."""

from notchledger.errors import NotchError
from notchledger.kinds import is_figures, is_name
from notchledger.ledger import HALVES, Ledger
from notchledger.texts import read_writing

MOST_TEARS = 8


def answer_begin(ledger, name):
    """Begins an account."""
    ledger.begin(name)
    return "done"


def answer_write(ledger, name, number):
    """Writes a number."""
    return carried_word(ledger.write(name, number))


def carried_word(carried):
    """The word for a strip that was carried, or was not."""
    return "carried" if carried else "written"


def answer_pay(ledger, one, other, amount):
    """Pays an amount from one to other."""
    carried_one, carried_other = ledger.pay(one, other, amount)
    return carried_word(carried_one) + " " + carried_word(carried_other)


def answer_lend(ledger, name):
    """Lends a twin out."""
    ledger.lend(name)
    return "done"


def answer_twin(ledger, name, number):
    """Writes a number on the twin."""
    ledger.write_twin(name, number)
    return "written"


def answer_lay(ledger, name):
    """Lays the twin on the strip."""
    return number_word(ledger.lay(name))


def number_word(number):
    """The word for a number, or for None."""
    return "nothing" if number is None else str(number)


def answer_cut(ledger, name, half, spot):
    """Cuts one spot of a half alone."""
    ledger.cut_alone(name, half, [spot])
    return "done"


def answer_settle(ledger, name):
    """Settles an account's halves."""
    word, number = ledger.settle(name)
    return word + " " + number_word(number)


def answer_mend(ledger, name, tears):
    """Mends an account's tears."""
    return number_word(ledger.mend(name, tears))


def answer_back(ledger):
    """Takes the last write or pay back."""
    return listed(ledger.back())


def listed(names):
    """The names as one text."""
    return " ".join(names) if names else "none"


def answer_number(ledger, name):
    """Tells an account's number."""
    return number_word(ledger.number(name))


def answer_names(ledger):
    """Tells the names of all accounts."""
    return listed(ledger.names())


def answer_away(ledger, name):
    """Tells how many strips of an account were put away."""
    return str(len(ledger.put_away(name)))


# For each first word the kinds of the words behind it, and below what answers them.
KINDS = {
    "begin": ("name",),
    "write": ("name", "number"),
    "pay": ("name", "name", "number"),
    "lend": ("name",),
    "twin": ("name", "number"),
    "lay": ("name",),
    "cut": ("name", "half", "number"),
    "settle": ("name",),
    "mend": ("name", "tears"),
    "back": (),
    "number": ("name",),
    "names": (),
    "away": ("name",),
}
ANSWERS = {
    "begin": answer_begin,
    "write": answer_write,
    "pay": answer_pay,
    "lend": answer_lend,
    "twin": answer_twin,
    "lay": answer_lay,
    "cut": answer_cut,
    "settle": answer_settle,
    "mend": answer_mend,
    "back": answer_back,
    "number": answer_number,
    "names": answer_names,
    "away": answer_away,
}


def is_said(words):
    """Whether the first word is one that is answered, and those behind it are of its kinds."""
    if words[0] not in KINDS:
        return False
    kinds = KINDS[words[0]]
    return len(words) == len(kinds) + 1 and all([fits(kind, word) for kind, word in zip(kinds, words[1:])])


def fits(kind, word):
    """Whether the word is one of this kind."""
    if kind == "name":
        return is_name(word)
    if kind == "half":
        return word in HALVES
    return is_figures(word) and (kind == "number" or int(word) <= MOST_TEARS)


def taken(kind, word):
    """What a word of this kind stands for."""
    return int(word) if kind in ("number", "tears") else word


def answered(ledger, words):
    """What the ledger answers to words that are such."""
    given = [taken(kind, word) for kind, word in zip(KINDS[words[0]], words[1:])]
    answer = ANSWERS[words[0]]
    return answer(ledger, *given)


class Desk:
    """Keeps one ledger at a time, and none at first."""

    def __init__(self):
        self.ledger = None

    def say(self, text):
        """What is answered to any text."""
        first, line_end, rest = text.partition("\n")
        if first == "ledger" and line_end:
            return self.keep(rest)
        words = text.split(" ")
        if not is_said(words):
            return "no word"
        if self.ledger is None:
            return "no ledger"
        try:
            return answered(self.ledger, words)
        except NotchError as refusal:
            return str(refusal)

    def keep(self, text):
        """Puts a new ledger, by the writing of this text, in the place of the elder one."""
        try:
            self.ledger = Ledger(read_writing(text))
        except NotchError as refusal:
            return str(refusal)
        return "kept"
