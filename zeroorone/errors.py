"""All errors that the package raises."""


class PaperError(ValueError):
    """The common base of the errors that refuse an argument by its kind."""


class InvalidGround(PaperError):
    """The value is no ground."""

    def __init__(self, value):
        self.value = value


class InvalidPoly(PaperError):
    """The value is no poly that fits."""


class InvalidForm(PaperError):
    """The value is no form that fits."""


class InvalidTable(PaperError):
    """The value is no table or vector that fits."""


class InvalidName(PaperError):
    """The value is no name that is free."""


class InvalidClaim(PaperError):
    """The value is no claim that fits."""


class InvalidWish(PaperError):
    """The value is no wish."""


class InvalidOperation(PaperError):
    """The operation cannot be done with these values."""


class ParseError(PaperError):
    """The value is no text of anything; the spot tells where."""

    def __init__(self, spot):
        self.spot = spot


class InvalidNumber(IndexError):
    """The value is no number or integer that fits."""

    def __init__(self, given):
        self.given = given


class UnknownName(KeyError):
    """Nothing has this name."""

    def __init__(self, name):
        self.name = name


class NothingToUndo(RuntimeError):
    """There are fewer changes than were wanted."""

    def __init__(self, wanted):
        self.wanted = wanted


class TooMany(OverflowError):
    """There would be more than the limit."""

    def __init__(self, limit):
        self.limit = limit


class Refused(ArithmeticError):
    """There is no such answer; the reason tells why."""

    def __init__(self, reason):
        self.reason = reason
