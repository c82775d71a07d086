"""The errors of the package. Each keeps the value that it is about as an attribute.

No message is made of the value: it may be a number with more digits than Python turns into text.
"""


class Duplicate(ValueError):
    """The row has a box of this size already."""

    def __init__(self, size):
        self.size = size


class NotFull(ValueError):
    """The nesting has so many outer boxes, not one."""

    def __init__(self, many):
        self.many = many


class OtherNesting(ValueError):
    """The two histories do not lead to the same nesting."""


class BadText(ValueError):
    """The text does not describe what it should."""

    def __init__(self, text):
        self.text = text


class BadLine(ValueError):
    """The line with this index is not written as lines of a sheet are."""

    def __init__(self, number):
        self.number = number


class NoBox(LookupError):
    """The row has no such place."""

    def __init__(self, place):
        self.place = place


class NoGap(LookupError):
    """The row has no such gap."""

    def __init__(self, gap):
        self.gap = gap


class NoIndex(LookupError):
    """The history has no such index of an exchange."""

    def __init__(self, index):
        self.index = index


class NoNumber(LookupError):
    """Nothing has this number."""

    def __init__(self, number):
        self.number = number


class NoState(LookupError):
    """There was no state after so many operations."""

    def __init__(self, many):
        self.many = many


class Closed(RuntimeError):
    """The gap is closed already."""

    def __init__(self, gap):
        self.gap = gap


class Outer(RuntimeError):
    """The box is outer: it is in no other box."""

    def __init__(self, place):
        self.place = place


class Stuck(RuntimeError):
    """The box cannot be taken out."""

    def __init__(self, place):
        self.place = place


class Blocked(RuntimeError):
    """The exchange at this index is not free."""

    def __init__(self, index):
        self.index = index


class TooMany(OverflowError):
    """There are so many, more than are listed."""

    def __init__(self, many):
        self.many = many


class Full(OverflowError):
    """The row can have so many boxes and no more."""

    def __init__(self, many):
        self.many = many
