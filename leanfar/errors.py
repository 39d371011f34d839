"""The refusals: each is told of anything, and stands under LeanError alone."""


class LeanError(ValueError):
    """What is refused: a ValueError that tells its text."""


class NoName(LeanError):
    """What was handed in for a name is none."""


class NoPlace(LeanError):
    """What was handed in for a place, or for a list of places, is none."""


class NoRule(LeanError):
    """What was handed in for a rule, or for a rule's number, is none."""


class NoWorld(LeanError):
    """What was handed in for a world is none."""


class NoPaper(LeanError):
    """What was handed in for a paper, a set, a reading or leanings is none."""


class NotHeld(LeanError):
    """The place is not believed."""


class Held(LeanError):
    """The place is believed, or vouched."""


class NotVouched(LeanError):
    """What was handed in is not vouched."""


class Twice(LeanError):
    """What was asked for is so already."""


class NoRoad(LeanError):
    """No road joins the two."""


class NoLetter(LeanError):
    """What was handed in is no letter that may be heard here."""


class NoHand(LeanError):
    """There is no such hand."""


class Empty(LeanError):
    """No letter lies there."""


class Busy(LeanError):
    """Letters lie still."""


class NotOpen(LeanError):
    """The place is not open."""


class NoLog(LeanError):
    """What was handed in for a log, or for logs, is no right one."""


class NoRow(LeanError):
    """What was handed in for a row, or for rows, is none."""


class NoText(LeanError):
    """What was handed in writes nothing, or is no writing."""
