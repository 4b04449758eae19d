"""Small canals: all that a standing comes to, gone through."""

from crosslocks.canals import is_standing
from crosslocks.errors import TooMany
from crosslocks.goings import gone, may_go
from crosslocks.measures import have_counts
from crosslocks.plain import tupled
from crosslocks.words import MOST


def come_to(canal, standing, most):
    """For each STANDING that it comes to, the one before it and the GOING between, None for itself.

    It's told by the least of the shortest rows: shorter rows are gone through first, and of rows as
    long as one another the lesser ones. Where there are more STANDINGs than most it's None.
    """
    layer = [tupled(standing)]
    came = {now: None for now in layer}
    while layer:
        further = []
        for now in layer:
            for going in sorted(may_go(canal, now)):
                then = gone(canal, now, going)
                if then not in came:
                    came[then] = (now, going)
                    further.append(then)
                if len(came) > most:
                    return None
        layer = further
    return came


def come_to_few(canal, standing):
    """As come_to, refused with TooMany where there are more than MOST."""
    came = come_to(canal, standing, MOST)
    if came is None:
        raise TooMany(MOST)
    return came


def lot_of(canal, standing):
    """The rising list of all STANDINGs that it comes to, itself too; TooMany where there are more than MOST."""
    return sorted(list(come_to_few(canal, standing)))


def shows_lot(canal, standing, thing):
    """Whether a thing is the rising list of all that it comes to, however long."""
    if not isinstance(thing, list) or not all([is_standing(canal, part) for part in thing]):
        return False
    came = come_to(canal, standing, len(thing))
    return came is not None and sorted(list(came)) == thing


def way(canal, one, other):
    """The least of the shortest rows from one to other; None where none leads there; TooMany ahead of all."""
    came = come_to_few(canal, one)
    now = tupled(other)
    if now not in came:
        return None
    row = []
    while came[now] is not None:
        now, going = came[now]
        row.append(going)
    return row[::-1]


def far(canal, one, other):
    """How many goings the shortest rows from one to other have; None; TooMany ahead of all."""
    row = way(canal, one, other)
    return None if row is None else len(row)


def is_stuck(canal, standing):
    """Whether nothing may go."""
    return may_go(canal, standing) == []


def scarce(canal, one, other):
    """Whether there are COUNTS, and yet one doesn't come to other; TooMany ahead of all."""
    came = come_to_few(canal, one)
    return tupled(other) not in came and have_counts(canal, one, other)
