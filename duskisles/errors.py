"""All errors of the package. Each keeps what it was made of."""


class DuskError(ValueError):
    """A value is not of the form that it must have."""


class AbsentError(LookupError):
    """A thing that is asked for is not there."""


class TurnError(RuntimeError):
    """Something cannot be done as things stand."""


class SizeError(OverflowError):
    """There is more of something than is gone through."""


class InvalidName(DuskError):
    """A value is not a name that can be given."""

    def __init__(self, value):
        self.value = value


class InvalidIsle(DuskError):
    """A part of an isle is wrong."""

    def __init__(self, which, part):
        self.which = which
        self.part = part


class InvalidStation(DuskError):
    """A part of a station is wrong."""

    def __init__(self, part):
        self.part = part


class InvalidWire(DuskError):
    """A part of a wire is wrong."""

    def __init__(self, which, part):
        self.which = which
        self.part = part


class InvalidChip(DuskError):
    """A part of a chip is wrong."""

    def __init__(self, part, which):
        self.part = part
        self.which = which


class InvalidEvent(DuskError):
    """The value with this index is not an event."""

    def __init__(self, index):
        self.index = index


class InvalidLogic(DuskError):
    """A logic did not return the registers that this name must have."""

    def __init__(self, which):
        self.which = which


class InvalidText(DuskError):
    """A text is wrong in this line, at this word."""

    def __init__(self, row, word):
        self.row = row
        self.word = word


class UnknownCommand(DuskError):
    """A line is not a command."""


class NoIsle(AbsentError):
    """A value is not the name of an isle."""

    def __init__(self, which):
        self.which = which


class NoWire(AbsentError):
    """A value is not the name of a wire."""

    def __init__(self, which):
        self.which = which


class NoPart(AbsentError):
    """An isle has no part of this name."""

    def __init__(self, which):
        self.which = which


class NoQuestion(AbsentError):
    """A value is not a question of the chip."""

    def __init__(self, value):
        self.value = value


class NoSpot(AbsentError):
    """A value is not a spot of the chip."""

    def __init__(self, value):
        self.value = value


class NoPair(AbsentError):
    """A value is not one of the pairs of an isle."""

    def __init__(self, value):
        self.value = value


class NoState(AbsentError):
    """A value is not one of the states that are meant."""

    def __init__(self, value):
        self.value = value


class NotNow(TurnError):
    """The event with this index cannot come now."""

    def __init__(self, index):
        self.index = index


class NotLet(TurnError):
    """A conductor holds this event back."""

    def __init__(self, event):
        self.event = event


class CannotSleep(TurnError):
    """An isle keeps others from being asleep together."""

    def __init__(self, which):
        self.which = which


class NothingToUndo(TurnError):
    """So many steps cannot be taken back, or done again."""

    def __init__(self, count):
        self.count = count


class HasTurns(TurnError):
    """An isle has turns, so its orders are not asked for."""

    def __init__(self, which):
        self.which = which


class HoldsOwn(TurnError):
    """An isle owns a holding clamp on a wire that it reads."""

    def __init__(self, which):
        self.which = which


class NotSafe(TurnError):
    """A question is bad behind these steps."""

    def __init__(self, question, steps):
        self.question = question
        self.steps = steps


class TooMany(SizeError):
    """There are more than so many."""

    def __init__(self, most):
        self.most = most
