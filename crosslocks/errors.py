"""The refusals.

Their messages are fixed texts: a field may hold anything at all, and making a refusal
must not fail because what it holds can't be written out.
"""


class BadRow(ValueError):
    """A row of a text isn't written as it should be."""

    def __init__(self, at):
        ValueError.__init__(self, "a row is not written as it should be")
        self.at = at


class Loose(ValueError):
    """A lock isn't sure."""

    def __init__(self, lock):
        ValueError.__init__(self, "a lock is not sure")
        self.lock = lock


class Others(ValueError):
    """A boat of the other water lies in a basin."""

    def __init__(self, basin):
        ValueError.__init__(self, "a boat of the other water lies in a basin")
        self.basin = basin


class NoLock(LookupError):
    """There is no such lock."""

    def __init__(self, lock):
        LookupError.__init__(self, "there is no such lock")
        self.lock = lock


class NoBasin(LookupError):
    """There is no such basin."""

    def __init__(self, basin):
        LookupError.__init__(self, "there is no such basin")
        self.basin = basin


class NoDeed(LookupError):
    """There are not so many deeds."""

    def __init__(self, many):
        LookupError.__init__(self, "there are not so many deeds")
        self.many = many


class NoBoat(RuntimeError):
    """The basin that a going goes from has no boat."""

    def __init__(self, going):
        RuntimeError.__init__(self, "the basin that a going goes from has no boat")
        self.going = going


class NoCounts(RuntimeError):
    """Two standings have no counts."""

    def __init__(self):
        RuntimeError.__init__(self)


class Short(RuntimeError):
    """A basin lacks boats."""

    def __init__(self, many):
        RuntimeError.__init__(self, "a basin lacks boats")
        self.many = many


class TooMany(OverflowError):
    """There are more standings than are gone through."""

    def __init__(self, many):
        OverflowError.__init__(self, "there are more standings than are gone through")
        self.many = many
