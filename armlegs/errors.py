"""The errors of the package, one class for each kind of failure."""


class ArmError(ValueError):
    """What the errors about values of a wrong form have in common."""


class InvalidPoly(ArmError):
    """A value is no polynomial, or cannot tell one."""


class InvalidShape(ArmError):
    """A value is no shape, or no composition, of a size that is asked for."""


class InvalidSum(ArmError):
    """A value is no symmetric sum, or cannot tell one."""


class InvalidWord(ArmError):
    """A value is no word."""


class InvalidFilling(ArmError):
    """A value is no filling."""


class InvalidPath(ArmError):
    """A value is no path."""


class InvalidOperation(ArmError):
    """Values do not go together."""


class ParseError(ArmError):
    """A text is wrong; `spot` tells where."""

    def __init__(self, spot):
        super().__init__("the text is wrong")
        self.spot = spot


class InvalidNumber(IndexError):
    """A value is no integer that can stand there; `given` is the value."""

    def __init__(self, given):
        super().__init__("the number is wrong")
        self.given = given


class UnknownName(KeyError):
    """A name is not there; `asked` is the name."""

    def __init__(self, asked):
        super().__init__("the name is unknown")
        self.asked = asked


class NothingToUndo(LookupError):
    """There are fewer calls than are to be undone; `wanted` tells how many."""

    def __init__(self, wanted):
        super().__init__("there is not so much to undo")
        self.wanted = wanted


class TooMany(OverflowError):
    """There would be more than `limit` allows."""

    def __init__(self, limit):
        super().__init__("there would be too many")
        self.limit = limit


class Refused(ArithmeticError):
    """There is no result; `reason` tells why."""

    def __init__(self, reason):
        super().__init__("there is no result")
        self.reason = reason
