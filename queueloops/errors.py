"""The errors of the program."""


class LoopError(ValueError):
    """Any error of this program: value is its only argument."""

    def __init__(self, value):
        self.value = value


class BadDevice(LoopError):
    """A text is no device: value is the number of a line, or 0 for what is no string."""


class BadStages(LoopError):
    """A value is not what the stages of a device can be."""


class BadRow(LoopError):
    """A value is no row of the device."""


class BadNumber(LoopError):
    """A value is no integer as it is asked for."""


class LacksDelay(LoopError):
    """No row of the device has this delay."""


class BadService(LoopError):
    """A value is no service."""


class BadSize(LoopError):
    """A value is no size."""


class BadScript(LoopError):
    """A value is no script: value is the number of a slot, or None."""


class BadSlot(LoopError):
    """A value cannot be the next slot, or is no slot that is asked for."""


class BadCounts(LoopError):
    """A value is no tuple of counts."""


class TooMany(LoopError):
    """There are more than can be dealt with."""


class TooGreat(LoopError):
    """A number is greater than can be dealt with."""


class BadRule(LoopError):
    """A value is no rule for the device."""


class BadPair(LoopError):
    """A value is no pair."""


class NoPair(LoopError):
    """The pair can be in no script."""


class BadBases(LoopError):
    """A value is no bases."""


class BadOrder(LoopError):
    """A value does not have each number once."""


class InUse(LoopError):
    """Rows of the rule lead into the lane: value has their delays."""


class FewLanes(LoopError):
    """The stage has only two lanes."""


class UnlikeSizes(LoopError):
    """Two rules have unlike sizes."""


class BadArrivals(LoopError):
    """Two values are no arrivals."""


class BadPlace(LoopError):
    """A value is no place of a packet in the slot."""


class TooFew(LoopError):
    """Only so many packets ever come."""


class NoThing(LoopError):
    """A value is not the name of a thing of the desk."""


class WrongKind(LoopError):
    """The thing of this name is not of the kind that is asked for."""


class BadName(LoopError):
    """A value is no name."""


class Held(LoopError):
    """The name is that of a thing already."""


class BadDeed(LoopError):
    """A value is no deed."""


class BadSlots(LoopError):
    """A value is no tuple of slots for a run."""


class NothingToUndo(LoopError):
    """No deed stands."""


class NothingToRedo(LoopError):
    """No deed is undone: value is how many stand."""


class NoNote(LoopError):
    """The word is no note."""


class BadDesk(LoopError):
    """A text is no desk: value is the number of a line, or 0 for what is no string."""
