"""The errors of the package."""


class TeamError(ValueError):
    """What is passed has not the form that it must have."""


class InvalidKind(TeamError):
    """No kind."""


class InvalidPlan(TeamError):
    """No plan."""


class InvalidProgram(TeamError):
    """No program."""


class InvalidSystem(TeamError):
    """No system."""


class InvalidInputs(TeamError):
    """No inputs, or no configuration, of a system."""


class InvalidWord(TeamError):
    """No name."""


class InvalidOperation(TeamError):
    """What cannot be done."""


class ParseError(TeamError):
    """No text of what is read; `at` is the index of the first wrong piece, or None."""

    def __init__(self, at):
        self.at = at


class InvalidNumber(IndexError):
    """`given` is no integer in the range."""

    def __init__(self, given):
        self.given = given


class UnknownName(KeyError):
    """Nothing has the name `wanted`."""

    def __init__(self, wanted):
        self.wanted = wanted


class NothingToUndo(LookupError):
    """There are not as `many` changes to take back."""

    def __init__(self, many):
        self.many = many


class TooMany(OverflowError):
    """There would be more than `limit`."""

    def __init__(self, limit):
        self.limit = limit


class Refused(ArithmeticError):
    """The pin `claim` would not hold."""

    def __init__(self, claim):
        self.claim = claim
