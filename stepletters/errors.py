"""The errors that the package raises."""


class StepError(ValueError):
    """A value that is not of the told form."""


class InvalidLetters(StepError):
    """No letters."""


class InvalidWord(StepError):
    """No word of the letters."""


class InvalidSum(StepError):
    """No sum, or one in other letters."""


class InvalidTower(StepError):
    """No tower."""


class InvalidAlgebra(StepError):
    """No algebra."""


class InvalidMap(StepError):
    """No map of towers."""


class InvalidRatio(StepError):
    """No ratio."""


class InvalidTable(StepError):
    """No table."""


class InvalidOperation(StepError):
    """Something that cannot be done with the values that were passed."""


class ParseError(StepError):
    """A string that is no text, with the spot from which on it is none."""

    def __init__(self, spot):
        self.spot = spot


class InvalidNumber(IndexError):
    """A value that is no integer within its bounds."""

    def __init__(self, given):
        self.given = given


class UnknownName(KeyError):
    """A name under which nothing is kept."""

    def __init__(self, name):
        self.name = name


class TooMany(OverflowError):
    """More than the limit."""

    def __init__(self, limit):
        self.limit = limit


class Refused(ArithmeticError):
    """Something that the values do not allow, with a tuple that tells why."""

    def __init__(self, reason):
        self.reason = reason


class NothingToUndo(LookupError):
    """Fewer deeds than were to be taken back, or done again."""

    def __init__(self, times):
        self.times = times
