"""The refusals of the program, each its own class under NotchError."""


class NotchError(ValueError):
    """Stands above all refusals."""


class NoWriting(NotchError):
    """What was handed in makes no writing."""


class NoAskings(NotchError):
    """What was handed in makes no askings."""


class TooMany(NotchError):
    """More than there is room for."""


class Unsure(NotchError):
    """Two or more numbers could be behind the cuts."""


class NoName(NotchError):
    """What was handed in is no name of an account."""


class Taken(NotchError):
    """There is an account of that name."""


class Unknown(NotchError):
    """No account has that name."""


class NoNumber(NotchError):
    """What was handed in is no number that can be written or paid."""


class Unlike(NotchError):
    """The two halves have other cuts."""


class Lent(NotchError):
    """The account has a twin."""


class Same(NotchError):
    """An account cannot pay itself."""


class Nothing(NotchError):
    """No number is read."""


class Short(NotchError):
    """The account has less than is to be paid."""


class Over(NotchError):
    """The account would get more than its greatest number."""


class NotLent(NotchError):
    """The account has no twin."""


class Spent(NotchError):
    """The twin has no way up to the number."""


class NoHalf(NotchError):
    """What was handed in is neither the stock nor the foil."""


class NoSpot(NotchError):
    """A spot that cannot be cut."""


class NoDeed(NotchError):
    """There is nothing to take back."""


class NoText(NotchError):
    """What was handed in is no writing's text."""
