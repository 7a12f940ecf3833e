"""The errors of this package: one class for each kind of failure."""


class RoundError(ValueError):
    """The base of all errors of this package."""


class TooGreat(RoundError):
    """A table would be longer than tables may be."""


class TooMany(RoundError):
    """There are more things than limit."""

    def __init__(self, limit):
        self.limit = limit


class NoFree(RoundError):
    """A purse has no free coins."""


class NoOne(RoundError):
    """The coin 1 is not among the coins."""


class BadMaker(RoundError):
    """What stands at path is no maker, for the reason of word."""

    def __init__(self, path, word):
        self.path = path
        self.word = word


class BadLine(RoundError):
    """A line is wrong at path, for the reason of word."""

    def __init__(self, path, word):
        self.path = path
        self.word = word


class BadName(RoundError):
    """This is no name."""

    def __init__(self, name):
        self.name = name


class Taken(RoundError):
    """The name is there already."""

    def __init__(self, name):
        self.name = name


class NoName(RoundError):
    """The name is not there."""

    def __init__(self, name):
        self.name = name


class Hangs(RoundError):
    """The name hangs on what would be dropped."""

    def __init__(self, name):
        self.name = name


class Ring(RoundError):
    """By the name a line would hang on itself."""

    def __init__(self, name):
        self.name = name


class BadSeen(RoundError):
    """This is no tuple of names that are seen."""

    def __init__(self, seen):
        self.seen = seen


class Differs(RoundError):
    """The table under the name would differ, at the number first."""

    def __init__(self, name, number):
        self.name = name
        self.number = number


class TooDeep(RoundError):
    """A line, written out, is deeper or longer than makers may be."""


class BadDeeds(RoundError):
    """This is no tuple of deeds."""


class Rejected(RoundError):
    """The deed at place raised an error."""

    def __init__(self, place):
        self.place = place


class Full(RoundError):
    """No further deed has room."""


class NothingToUndo(RoundError):
    """No deed stands."""


class NothingToRedo(RoundError):
    """No deed can be done again."""


class BadText(RoundError):
    """A text is wrong at the word of this place."""

    def __init__(self, place):
        self.place = place
