"""All errors of the program."""


class RampError(ValueError):
    """What all errors about the kind or the form of a value are derived from."""


class InvalidRow(RampError):
    """A value is no row as it is due."""


class InvalidLot(RampError):
    """A value is no lot."""


class InvalidReading(RampError):
    """A value is no reading."""


class InvalidNetwork(RampError):
    """A value is no network, or tells none."""


class InvalidGrowth(RampError):
    """A value is no growth."""


class InvalidOperation(RampError):
    """Values do not go together."""


class InvalidText(RampError):
    """A value is no text as it is due."""


class InvalidClaim(RampError):
    """A value is no claim."""


class ParseError(RampError):
    """A text is refused at a spot."""

    def __init__(self, spot):
        self.spot = spot


class InvalidNumber(IndexError):
    """A number or an index is not as it is due."""

    def __init__(self, given):
        self.given = given


class UnknownName(KeyError):
    """A name stands for nothing."""

    def __init__(self, wanted):
        self.wanted = wanted


class TooMany(OverflowError):
    """There are more than the limit."""

    def __init__(self, limit):
        self.limit = limit


class NothingToUndo(LookupError):
    """There is no place to go to."""

    def __init__(self, done):
        self.done = done


class Refused(ArithmeticError):
    """What is asked for is not to be had; the reason is a tuple that begins with a word."""

    def __init__(self, reason):
        self.reason = reason
