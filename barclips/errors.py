"""The errors of the program.

The messages write no ticks, steps or other long numbers: Python refuses to
write an integer of several thousand digits. The attributes hold the values.
"""


class BarclipsError(ValueError):
    """The base class of all errors of the program."""


class BadName(BarclipsError):
    """A name is not of the form of a name."""

    def __init__(self, name):
        BarclipsError.__init__(self, f"not a name: {name!r}")
        self.name = name


class BadNumber(BarclipsError):
    """A number is outside of its bounds."""

    def __init__(self, value):
        BarclipsError.__init__(self, "a number is outside of its bounds")
        self.value = value


class BadWord(BarclipsError):
    """A word is not one of the words that may stand there."""

    def __init__(self, word):
        BarclipsError.__init__(self, f"not a word that may stand here: {word!r}")
        self.word = word


class BadLine(BarclipsError):
    """A line of a text is faulty."""

    def __init__(self, number):
        BarclipsError.__init__(self, f"faulty line: {number}")
        self.number = number


class BadSetting(BarclipsError):
    """A setting has not one entry for each track."""

    def __init__(self, size):
        BarclipsError.__init__(self, f"not as many entries as tracks: {size}")
        self.size = size


class TooMany(BarclipsError):
    """There are more things of a kind than are allowed."""

    def __init__(self, kind, most):
        BarclipsError.__init__(self, f"more {kind} than {most}")
        self.kind = kind
        self.most = most


class NoClips(BarclipsError):
    """A track has no clip."""

    def __init__(self, name):
        BarclipsError.__init__(self, f"a track without a clip: {name!r}")
        self.name = name


class Twice(BarclipsError):
    """A name occurs twice."""

    def __init__(self, name):
        BarclipsError.__init__(self, f"a name that occurs twice: {name!r}")
        self.name = name


class Unknown(BarclipsError):
    """Nothing has this name."""

    def __init__(self, name):
        BarclipsError.__init__(self, f"an unknown name: {name!r}")
        self.name = name


class EmptyClip(BarclipsError):
    """A clip is empty where it must have a length."""

    def __init__(self, name):
        BarclipsError.__init__(self, f"an empty clip: {name!r}")
        self.name = name


class NotEmpty(BarclipsError):
    """A clip or a track is not empty where it must be."""

    def __init__(self, name):
        BarclipsError.__init__(self, f"not empty: {name!r}")
        self.name = name


class NotArmed(BarclipsError):
    """A track is not armed."""

    def __init__(self, name):
        BarclipsError.__init__(self, f"a track that is not armed: {name!r}")
        self.name = name


class NotHeld(BarclipsError):
    """A lead is not held."""

    def __init__(self, name):
        BarclipsError.__init__(self, f"a lead that is not held: {name!r}")
        self.name = name


class OffGrid(BarclipsError):
    """A tick is not on its grid."""

    def __init__(self, tick):
        BarclipsError.__init__(self, "a tick is not on its grid")
        self.tick = tick


class Apart(BarclipsError):
    """Two grids have no common tick."""

    def __init__(self, first, second):
        BarclipsError.__init__(self, "two grids have no common tick")
        self.first = first
        self.second = second


class NothingToUndo(BarclipsError):
    """There is no deed to take back."""

    def __init__(self):
        BarclipsError.__init__(self, "there is no deed to take back")
