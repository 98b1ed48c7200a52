"""The exceptions of the package: three bases, and what stands directly under each.

A field keeps the very object that was passed, so that callers can tell which one was wrong.
"""


class PlanError(ValueError):
    """An argument is invalid."""


class MissingError(KeyError):
    """Something that is asked for does not exist."""


class StateError(LookupError):
    """Something cannot be done."""


class InvalidInteger(PlanError):
    """An argument is no integer, or not one of those that are asked for."""

    def __init__(self, value):
        self.value = value


class InvalidName(PlanError):
    """A value is no name."""

    def __init__(self, value):
        self.value = value


class InvalidEvents(PlanError):
    """A value is no list of events for a plan."""

    def __init__(self, value):
        self.value = value


class InvalidTies(PlanError):
    """A value is no list of ties."""

    def __init__(self, value):
        self.value = value


class InvalidTie(PlanError):
    """A value is no tuple of three items."""

    def __init__(self, value):
        self.value = value


class InvalidLimits(PlanError):
    """A value is no dict from events of the plan to limits."""

    def __init__(self, value):
        self.value = value


class InvalidPlan(PlanError):
    """A value is no plan."""

    def __init__(self, value):
        self.value = value


class InvalidText(PlanError):
    """A value is not the text of what is read."""

    def __init__(self, value):
        self.value = value


class InvalidCounts(PlanError):
    """A value is no counts of the plan."""

    def __init__(self, value):
        self.value = value


class InvalidRun(PlanError):
    """A value is no list of events of the plan."""

    def __init__(self, value):
        self.value = value


class InvalidStock(PlanError):
    """A value is no stock."""

    def __init__(self, value):
        self.value = value


class InvalidAmounts(PlanError):
    """A value is no dict from names to amounts."""

    def __init__(self, value):
        self.value = value


class InvalidBounds(PlanError):
    """A value is no bound, or no list or dict of bounds."""

    def __init__(self, value):
        self.value = value


class InvalidNames(PlanError):
    """A value is no list of names, or too short a one."""

    def __init__(self, value):
        self.value = value


class InvalidCommand(PlanError):
    """A value is no command of a desk."""

    def __init__(self, value):
        self.value = value


class InvalidCommands(PlanError):
    """A value is no list of commands of a desk."""

    def __init__(self, value):
        self.value = value


class InvalidLog(PlanError):
    """A value is no list of seen events."""

    def __init__(self, value):
        self.value = value


class InvalidLogs(PlanError):
    """A value is no list of runs to learn from, or not one of these runs."""

    def __init__(self, value):
        self.value = value


class InvalidEntry(PlanError):
    """A value is neither a plan nor a stock."""

    def __init__(self, value):
        self.value = value


class Duplicate(PlanError):
    """A name stands in a list a second time."""

    def __init__(self, name):
        self.name = name


class Ring(PlanError):
    """Some events lie on a ring of ties with the lag 0."""

    def __init__(self, members):
        self.members = members


class UnlikeEvents(PlanError):
    """Two plans have other events, or have them in another order."""

    def __init__(self, members):
        self.members = members


class TooMany(PlanError):
    """There would be more than the bound allows."""

    def __init__(self, bound):
        self.bound = bound


class UnknownEvent(MissingError):
    """A value is none of the events."""

    def __init__(self, name):
        self.name = name


class NoTie(MissingError):
    """A value is not the index of a tie."""

    def __init__(self, index):
        self.index = index


class NoEntry(MissingError):
    """A value is not the name of an entry of a desk."""

    def __init__(self, name):
        self.name = name


class Barred(StateError):
    """An event of a run cannot come."""

    def __init__(self, index):
        self.index = index


class NotMoment(StateError):
    """Counts break a tie or a limit."""

    def __init__(self, value):
        self.value = value


class NotBehind(StateError):
    """Some event has come more often at the beginning than at the end."""

    def __init__(self, value):
        self.value = value


class TooLong(StateError):
    """A run or a log would have too many events."""

    def __init__(self, total):
        self.total = total


class Endless(StateError):
    """An event can come any number of times."""

    def __init__(self, event):
        self.event = event


class NotPossible(StateError):
    """A sighting has no moments."""


class Misfit(StateError):
    """An event of a log cannot come, whatever hidden events came between."""

    def __init__(self, index):
        self.index = index


class NotSafe(StateError):
    """No lag of a tie keeps all bounds."""

    def __init__(self, index):
        self.index = index


class NoRun(StateError):
    """No plan is run on a desk."""


class NothingToUndo(StateError):
    """A desk has no change that can be taken back."""


class NothingToRedo(StateError):
    """A desk has no change that can be carried out again."""
