"""All errors of the program. The attributes of an error are named as its arguments."""

from statestay.copies import fresh


class StayError(Exception):
    """The base class of all errors of the program."""


class InvalidShape(StayError):
    """A part of what was given for a shape is wrong."""

    def __init__(self, part):
        """Keep the word for the part."""
        self.part = part


class NoList(StayError):
    """A shape has no list with this name."""

    def __init__(self, name):
        """Keep the name that was asked for."""
        self.name = name


class InvalidData(StayError):
    """Data are not data of the shape."""

    def __init__(self, path):
        """Keep the path of the first wrong place."""
        self.path = path


class LimitExceeded(StayError):
    """There is more than a limit allows."""

    def __init__(self, limit):
        """Keep the limit."""
        self.limit = limit


class InvalidTemplate(StayError):
    """An item of a template, or what it is given with, is wrong."""

    def __init__(self, part, path):
        """Keep the word for what is wrong and the path of the item."""
        self.part = part
        self.path = path


class NoItem(StayError):
    """A template has no item, or no fitting item, at this path."""

    def __init__(self, path):
        """Keep the path that was asked for."""
        self.path = path


class InvalidRule(StayError):
    """There is no rule with this place."""

    def __init__(self, place):
        """Keep the place, which may be any value."""
        self.place = fresh(place)


class NoPart(StayError):
    """A drawing has no part with this owner."""

    def __init__(self, owner):
        """Keep the owner that was asked for."""
        self.owner = owner


class InvalidShift(StayError):
    """A shift cannot be done."""

    def __init__(self, shift):
        """Keep the shift, which may be any value."""
        self.shift = fresh(shift)


class InvalidDeed(StayError):
    """A deed does not fit the data."""

    def __init__(self, reason):
        """Keep the word for the reason."""
        self.reason = reason


class InvalidRepair(StayError):
    """A repair is none of the candidates."""

    def __init__(self, repair):
        """Keep the repair."""
        self.repair = fresh(repair)


class InvalidText(StayError):
    """A text cannot be read."""

    def __init__(self, line):
        """Keep the number of the line, or 0 if the lines do not fit together."""
        self.line = line


class NothingToUndo(StayError):
    """No step is left that could be taken back."""


class NothingToRedo(StayError):
    """No step is left that could be done again."""
