"""All that the program refuses, by name."""


class TraceError(ValueError):
    """Whatever the program refuses."""


class NoText(TraceError):
    """Of a text that isn't read: row is the first one that can't stand."""

    def __init__(self, row):
        TraceError.__init__(self, f"row {row} can't stand")
        self.row = row


class NoFlow(TraceError):
    """Of what is no flow."""


class NoUnit(TraceError):
    """Of what is no unit."""


class NoLetter(TraceError):
    """Of letters: at is the first one that isn't due."""

    def __init__(self, at):
        TraceError.__init__(self, f"letter {at} isn't due")
        self.at = at


class TooLong(TraceError):
    """Of more events than were asked for."""


class TooMany(TraceError):
    """Of more places, signs or steps than a flow can have."""


class NoPair(TraceError):
    """Of two that don't go together."""


class NoRewrite(TraceError):
    """Of what is no rewriting of a unit."""


class NoStyle(TraceError):
    """Of what is no style, and no pass."""


class NoName(TraceError):
    """Of what is no name, or no name there."""

    def __init__(self, name):
        # the name may be anything, also what has no short text
        TraceError.__init__(self, "there is no such name")
        self.name = name


class Round(TraceError):
    """Of a unit that would ask itself: name is its name."""

    def __init__(self, name):
        TraceError.__init__(self, f"{name} would ask itself")
        self.name = name


class Asked(TraceError):
    """Of a unit that is asked: name is the first that asks it."""

    def __init__(self, name):
        TraceError.__init__(self, f"{name} asks it")
        self.name = name


class Unlike(TraceError):
    """Of two that aren't alike: letters are the least that part them."""

    def __init__(self, letters):
        TraceError.__init__(self, "letters part them")
        self.letters = letters


class Claimed(TraceError):
    """Of a unit of which an equality stands: number is the first one's."""

    def __init__(self, number):
        TraceError.__init__(self, f"equality {number} stands on it")
        self.number = number


class NoDeed(TraceError):
    """Of a list of deeds of a house: at is the first one that is none."""

    def __init__(self, at):
        TraceError.__init__(self, f"deed {at} is none")
        self.at = at


class BadLog(TraceError):
    """Of a log: row is the first one that isn't right."""

    def __init__(self, row):
        TraceError.__init__(self, f"row {row} isn't right")
        self.row = row
