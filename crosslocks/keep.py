"""A canal kept over deeds."""

from crosslocks.deeds import almanac_of, begun, drained, dug, filled, gone_by, gone_by_all, paid_of, turned
from crosslocks.errors import NoDeed
from crosslocks.plain import is_place


class Keep:
    """A canal and its standing, and all deeds that stand.

    moments has what is kept: before all deeds, and behind each that stands.
    """

    def __init__(self, canal, standing):
        self.moments = [begun(canal, standing)]
        self.notes = []

    def go(self, lock, water):
        """A boat goes by a lock; NoLock, then NoBoat."""
        self.notes.append(("in", "go"))
        try:
            self.moments.append(gone_by(self.moments[-1], lock, water))
        finally:
            self.notes.append(("out", "go"))

    def row(self, goings):
        """Boats go, one behind the other, as one deed; NoLock or NoBoat of the first that's refused."""
        self.notes.append(("in", "row"))
        try:
            self.moments.append(gone_by_all(self.moments[-1], goings))
        finally:
            self.notes.append(("out", "row"))

    def fill(self, water, basin, many):
        """So many boats more; NoBasin."""
        self.notes.append(("in", "fill"))
        try:
            self.moments.append(filled(self.moments[-1], water, basin, many))
        finally:
            self.notes.append(("out", "fill"))

    def drain(self, water, basin, many):
        """So many boats fewer; NoBasin, then Short."""
        self.notes.append(("in", "drain"))
        try:
            self.moments.append(drained(self.moments[-1], water, basin, many))
        finally:
            self.notes.append(("out", "drain"))

    def turn(self, lock):
        """The lock stands the other way; NoLock."""
        self.notes.append(("in", "turn"))
        try:
            self.moments.append(turned(self.moments[-1], lock))
        finally:
            self.notes.append(("out", "turn"))

    def dig(self, a, c, x, y):
        """A LOCK more, low, behind all others: its number; NoBasin of the first basin that isn't there."""
        self.notes.append(("in", "dig"))
        try:
            self.moments.append(dug(self.moments[-1], a, c, x, y))
        finally:
            self.notes.append(("out", "dig"))
        return len(self) - 1

    def undo(self):
        """Whether a deed stood; the last one is as if it hadn't been."""
        self.notes.append(("in", "undo"))
        stood = len(self.moments) > 1
        if stood:
            self.moments.pop()
        self.notes.append(("out", "undo"))
        return stood

    def canal(self):
        return self.moments[-1][0]

    def standing(self):
        return self.moments[-1][1]

    def deeds(self):
        """How many deeds stand."""
        return len(self.moments) - 1

    def hands(self):
        """The triple of lists of what was done by hand: at each red basin, each blue one, each lock."""
        return tuple([list(part) for part in self.moments[-1][2]])

    def almanac(self):
        """The almanac by what was at first, what was done by hand and what stands, by these alone."""
        return almanac_of(self.moments[0], self.moments[-1])

    def paid(self, tolls):
        """The pair (what, step) by the same."""
        return paid_of(self.moments[0], self.moments[-1], tolls)

    def went(self):
        """The pair of lists of how many more reds, blues really went forth by each lock than back."""
        return tuple([list(part) for part in self.moments[-1][3]])

    def as_of(self, many):
        """A Keep of its own as behind the first so many deeds that stand; NoDeed."""
        if not is_place(many, len(self.moments)):
            raise NoDeed(many)
        canal, standing, hands, went = self.moments[0]
        kept = Keep(canal, standing)
        kept.moments = self.moments[:many + 1]
        return kept

    def twin(self):
        """A Keep of its own as it is."""
        return self.as_of(self.deeds())

    def log(self):
        """The list of ("in", word) and ("out", word) as each deed was begun and ended, refused or not."""
        return list(self.notes)

    def __eq__(self, other):
        # Canal, standing and hands, not what went.
        return isinstance(other, Keep) and self.moments[-1][:3] == other.moments[-1][:3]

    def __len__(self):
        return len(self.moments[-1][0][2])

    def __repr__(self):
        return f"Keep({self.moments[-1][0][0]} red, {self.moments[-1][0][1]} blue, {len(self)} locks)"
