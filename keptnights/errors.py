"""The errors of the package: each is made from its fields, by position or by name."""


class KeptError(ValueError):
    """What all errors of this package are derived from."""


class BadNumber(KeptError):
    """A number is of the wrong kind or out of its bounds."""

    def __init__(self, value):
        self.value = value


class BadName(KeptError):
    """A value is no name."""

    def __init__(self, value):
        self.value = value


class BadDate(KeptError):
    """A value is no date of the calendar."""

    def __init__(self, value):
        self.value = value


class BadSpan(KeptError):
    """A value is no span."""

    def __init__(self, value):
        self.value = value


class BadItem(KeptError):
    """An item of a sequence is not right; the index is None if there is no sequence."""

    def __init__(self, index):
        self.index = index


class BadEvent(KeptError):
    """A value is no event, no deed or no command."""

    def __init__(self, value):
        self.value = value


class BadNote(KeptError):
    """A line of a text, counted from 1, is not written as it must be."""

    def __init__(self, line):
        self.line = line


class TooMany(KeptError):
    """There are more things than the limit allows."""

    def __init__(self, limit):
        self.limit = limit


class Unknown(KeptError):
    """There is nothing of this name."""

    def __init__(self, value):
        self.value = value


class Taken(KeptError):
    """There is something of this name already."""

    def __init__(self, value):
        self.value = value


class Closed(KeptError):
    """A day is closed already."""

    def __init__(self, day):
        self.day = day


class Refused(KeptError):
    """What was asked for is refused, for a reason and perhaps at a night."""

    def __init__(self, reason, night):
        self.reason = reason
        self.night = night


class NothingToUndo(KeptError):
    """No deed can be taken back or done again."""
