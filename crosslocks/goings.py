"""Goings: which boats may go by which locks, and what stands behind a row of them."""

from crosslocks.canals import ends_of
from crosslocks.errors import NoBoat
from crosslocks.plain import tupled
from crosslocks.words import BLUE, RED


def from_and_to(canal, standing, lock, water):
    """The pair of the basins that a boat goes from and to by a lock as it stands."""
    start, end = ends_of(canal[2][lock], water)
    return (start, end) if standing[2][lock] == 0 else (end, start)


def has_boat(canal, standing, lock, water):
    """Whether the basin that such a going goes from has a boat."""
    start = from_and_to(canal, standing, lock, water)[0]
    boats = standing[0] if water == RED else standing[1]
    return boats[start] > 0


def may_go(canal, standing):
    """The list of the GOINGs that have a boat, lock by lock, red ahead of blue."""
    told = []
    for lock in range(len(canal[2])):
        for water in (RED, BLUE):
            if has_boat(canal, standing, lock, water):
                told.append((lock, water))
    return told


def gone(canal, standing, going):
    """The STANDING behind a going; NoBoat where the basin that it goes from has none."""
    lock, water = going
    if not has_boat(canal, standing, lock, water):
        raise NoBoat((lock, water))
    start, end = from_and_to(canal, standing, lock, water)
    reds, blues, stands = list(standing[0]), list(standing[1]), list(standing[2])
    boats = reds if water == RED else blues
    boats[start] -= 1
    boats[end] += 1
    stands[lock] = 1 - stands[lock]
    return tuple(reds), tuple(blues), tuple(stands)


def gone_all(canal, standing, row):
    """The STANDING behind a row of GOINGs; NoBoat of the first that has none."""
    now = tupled(standing)
    for going in row:
        now = gone(canal, now, going)
    return now


def went(canal, standing, row):
    """The pair of lists, lock by lock, of how many more reds, blues went forth than back in a row."""
    now = tupled(standing)
    reds = [0 for lock in canal[2]]
    blues = [0 for lock in canal[2]]
    for lock, water in row:
        more = 1 if now[2][lock] == 0 else -1
        now = gone(canal, now, (lock, water))
        if water == RED:
            reds[lock] += more
        else:
            blues[lock] += more
    return reds, blues
