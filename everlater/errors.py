"""The refusals: each straight under MarkError, with the value that it is about.

The messages leave the values out, since these may be anything, also what can not be written out.
"""


class MarkError(ValueError):
    """Everlater refuses what was asked."""


class NotKept(MarkError):
    """What was handed in is no kept row."""

    def __init__(self, row):
        MarkError.__init__(self, "no kept row")
        self.row = row


class NotHeld(MarkError):
    """What was handed in is nothing that slots can hold."""

    def __init__(self, held):
        MarkError.__init__(self, "not held by slots")
        self.held = held


class TooMany(MarkError):
    """A lot would have more marks than a lot can have."""

    def __init__(self, many):
        MarkError.__init__(self, "too many marks")
        self.many = many


class BadTower(MarkError):
    """What was handed in is no tower."""

    def __init__(self, tower):
        MarkError.__init__(self, "no tower")
        self.tower = tower


class BadMany(MarkError):
    """What was handed in is no such number of slots, rows or places."""

    def __init__(self, many):
        MarkError.__init__(self, "no such number")
        self.many = many


class BadLine(MarkError):
    """What was handed in is no number of letters under way."""

    def __init__(self, line):
        MarkError.__init__(self, "no such line")
        self.line = line


class NoReach(MarkError):
    """The tower's reach is too small for what is asked of it."""

    def __init__(self, reach):
        MarkError.__init__(self, "the reach is too small")
        self.reach = reach


class NoSlot(MarkError):
    """What was handed in is the number of no slot or place."""

    def __init__(self, slot):
        MarkError.__init__(self, "no such slot")
        self.slot = slot


class Empty(MarkError):
    """The slot or place holds nothing."""

    def __init__(self, slot):
        MarkError.__init__(self, "nothing is held there")
        self.slot = slot


class NoLetter(MarkError):
    """What was handed in is the number of no letter under way."""

    def __init__(self, number):
        MarkError.__init__(self, "no such letter")
        self.number = number


class NotLive(MarkError):
    """What was handed in is no live letter."""

    def __init__(self, thing):
        MarkError.__init__(self, "no live letter")
        self.thing = thing


class NoKey(MarkError):
    """What was handed in is no key."""

    def __init__(self, key):
        MarkError.__init__(self, "no key")
        self.key = key


class NoValue(MarkError):
    """What was handed in is no value."""

    def __init__(self, value):
        MarkError.__init__(self, "no value")
        self.value = value


class NoText(MarkError):
    """A text is not so written, as is seen at this row."""

    def __init__(self, row):
        MarkError.__init__(self, "not so written")
        self.row = row


class NoLine(MarkError):
    """What was handed in is no line that the desk answers."""

    def __init__(self, line):
        MarkError.__init__(self, "no such line")
        self.line = line


class Serves(MarkError):
    """The lot serves so many slots, so no attack breaks it."""


class Fails(MarkError):
    """The lot does not serve so many slots."""


class NoDeed(MarkError):
    """There is no deed to be taken back."""
