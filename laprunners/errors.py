"""The errors of the package. None of them is a subclass of another one."""


class InvalidNumber(ValueError):
    """A value is not a number of the expected kind."""


class InvalidLength(ValueError):
    """The length of a ring is not valid."""


class InvalidRunner(ValueError):
    """The runner with this name is not valid; None if their number is wrong."""

    def __init__(self, name):
        self.name = name


class InvalidTime(ValueError):
    """A value is not a time, or the time is too early."""


class InvalidWindow(ValueError):
    """A window ends before it starts."""


class InvalidGap(ValueError):
    """A value is not a gap of the ring."""


class InvalidSnapshot(ValueError):
    """A value is not a snapshot, or not one of the same runners."""


class InvalidFactor(ValueError):
    """A factor is not a number greater than 0."""


class InvalidNames(ValueError):
    """A value does not give each runner a new name."""


class ParseError(ValueError):
    """The row with this index is not valid."""

    def __init__(self, row):
        self.row = row


class InvalidCommand(ValueError):
    """A console does not know a command of this form."""


class InvalidGoal(ValueError):
    """A value is not a goal."""


class InvalidCount(ValueError):
    """A value is not a count or an index."""


class InvalidOrder(ValueError):
    """A value is not an order of the runners."""


class InvalidObservation(ValueError):
    """The item with this index is not an observation; None if there is no list."""

    def __init__(self, index):
        self.index = index


class UnknownName(KeyError):
    """The race has no runner with this name."""

    def __init__(self, name):
        self.name = name


class DivisionByZero(ArithmeticError):
    """A divisor is 0, or a modulus is not greater than 0."""


class Tied(LookupError):
    """These two runners are not in any order."""

    def __init__(self, first, second):
        self.first = first
        self.second = second


class NoSpeed(LookupError):
    """No speed fits the observations, as this refusal shows."""

    def __init__(self, refusal):
        self.refusal = refusal


class NothingToUndo(RuntimeError):
    """A session has no step left to undo."""


class NoRunners(RuntimeError):
    """A console has no runners yet."""


class Together(RuntimeError):
    """From this time on a goal is reached at all times for a while."""

    def __init__(self, time):
        self.time = time


class LimitExceeded(OverflowError):
    """There are more results than this limit."""

    def __init__(self, limit):
        self.limit = limit
