"""The refusals of the program, each its own class under NotchError."""


class NotchError(ValueError):
    """Stands above all refusals."""


class NoWriting(NotchError):
    """What was handed in makes no writing."""

    def __str__(self):
        """The refusal's name."""
        return "NoWriting"


class NoAskings(NotchError):
    """What was handed in makes no askings."""

    def __str__(self):
        """The refusal's name."""
        return "NoAskings"


class TooMany(NotchError):
    """More than there is room for."""

    def __str__(self):
        """The refusal's name."""
        return "TooMany"


class Unsure(NotchError):
    """Two or more numbers could be behind the cuts."""

    def __str__(self):
        """The refusal's name."""
        return "Unsure"


class NoName(NotchError):
    """What was handed in is no name of an account."""

    def __str__(self):
        """The refusal's name."""
        return "NoName"


class Taken(NotchError):
    """There is an account of that name."""

    def __str__(self):
        """The refusal's name."""
        return "Taken"


class Unknown(NotchError):
    """No account has that name."""

    def __str__(self):
        """The refusal's name."""
        return "Unknown"


class NoNumber(NotchError):
    """What was handed in is no number that can be written or paid."""

    def __str__(self):
        """The refusal's name."""
        return "NoNumber"


class Unlike(NotchError):
    """The two halves have other cuts."""

    def __str__(self):
        """The refusal's name."""
        return "Unlike"


class Lent(NotchError):
    """The account has a twin."""

    def __str__(self):
        """The refusal's name."""
        return "Lent"


class Same(NotchError):
    """An account cannot pay itself."""

    def __str__(self):
        """The refusal's name."""
        return "Same"


class Nothing(NotchError):
    """No number is read."""

    def __str__(self):
        """The refusal's name."""
        return "Nothing"


class Short(NotchError):
    """The account has less than is to be paid."""

    def __str__(self):
        """The refusal's name."""
        return "Short"


class Over(NotchError):
    """The account would get more than its greatest number."""

    def __str__(self):
        """The refusal's name."""
        return "Over"


class NotLent(NotchError):
    """The account has no twin."""

    def __str__(self):
        """The refusal's name."""
        return "NotLent"


class Spent(NotchError):
    """The twin has no way up to the number."""

    def __str__(self):
        """The refusal's name."""
        return "Spent"


class NoHalf(NotchError):
    """What was handed in is neither the stock nor the foil."""

    def __str__(self):
        """The refusal's name."""
        return "NoHalf"


class NoSpot(NotchError):
    """A spot that cannot be cut."""

    def __str__(self):
        """The refusal's name."""
        return "NoSpot"


class NoDeed(NotchError):
    """There is nothing to take back."""

    def __str__(self):
        """The refusal's name."""
        return "NoDeed"


class NoText(NotchError):
    """What was handed in is no writing's text."""

    def __str__(self):
        """The refusal's name."""
        return "NoText"
