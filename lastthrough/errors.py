"""The errors of the package."""


class LastThroughError(ValueError):
    """The base class of all errors of the package."""


class InvalidHouse(LastThroughError):
    """A value that should be a house is none."""

    def __init__(self, reason=None):
        self.reason = reason


class InvalidState(LastThroughError):
    """A value that should be a state of the house is none, or has another number of people."""

    def __init__(self, reason=None):
        self.reason = reason


class InvalidPlan(LastThroughError):
    """A value that should be a plan for the house and the people is none."""

    def __init__(self, reason=None):
        self.reason = reason


class InvalidPerson(LastThroughError):
    """A value that should be a person of the state is none."""

    def __init__(self, person=None):
        self.person = person


class InvalidRoom(LastThroughError):
    """A value that should be a room of the house is none."""

    def __init__(self, room=None):
        self.room = room


class InvalidDoor(LastThroughError):
    """A value that should be a door of the house is none."""

    def __init__(self, door=None):
        self.door = door


class InvalidCount(LastThroughError):
    """A number of people or moves is not one that the function takes."""


class InvalidBits(LastThroughError):
    """A value that should be bits of the house is none."""


class InvalidSchedule(LastThroughError):
    """A value that should be a schedule for the house and the people is none."""

    def __init__(self, reason=None):
        self.reason = reason


class MoveBlocked(LastThroughError):
    """A move is not possible when it is its turn."""

    def __init__(self, index=None, reason=None):
        self.index = index
        self.reason = reason


class IndexTooLarge(LastThroughError):
    """An index is not a whole number from 0 to count - 1."""

    def __init__(self, count=None):
        self.count = count


class ProblemTooLarge(LastThroughError):
    """A problem is larger than the function takes."""

    def __init__(self, count=None):
        self.count = count


class NothingToUndo(LastThroughError):
    """There is no step to take back."""
