"""One water alone: what is asleep, and what a standing leads to."""

from crosslocks.canals import basins_of, ends_of
from crosslocks.errors import Others
from crosslocks.goings import from_and_to, gone_all, has_boat
from crosslocks.words import BLUE, RED


def boats_of(standing, water):
    return standing[0] if water == RED else standing[1]


def be_alone(standing, water):
    """Refused with Others where a boat of the other water lies anywhere."""
    for basin, boats in enumerate(boats_of(standing, BLUE if water == RED else RED)):
        if boats > 0:
            raise Others(basin)


def roads(canal, standing, water):
    """For each basin that is awake the shortest row behind which a boat lies in it, the least of these.

    All goings of such a row are of one boat: a going makes no other boat's road shorter.
    """
    told = {basin: [] for basin, boats in enumerate(boats_of(standing, water)) if boats > 0}
    found = told
    while found:
        found = {}
        for lock in range(len(canal[2])):
            start, end = from_and_to(canal, standing, lock, water)
            if start in told and end not in told:
                road = told[start] + [(lock, water)]
                found[end] = min(found.get(end, road), road)
        told = {**told, **found}
    return told


def asleep(canal, standing, water):
    """The rising list of the basins of that water to which no boat comes; Others."""
    be_alone(standing, water)
    awake = roads(canal, standing, water)
    return [basin for basin in range(basins_of(canal, water)) if basin not in awake]


def unlike_locks(one, other):
    """The rising list of the locks that don't stand alike in both."""
    return [lock for lock, (first, last) in enumerate(zip(one[2], other[2])) if first != last]


def boats_behind(canal, one, other, water):
    """The boats of that water's basins where just one went by each lock that stands otherwise in other."""
    boats = list(boats_of(one, water))
    for lock in unlike_locks(one, other):
        start, end = from_and_to(canal, one, lock, water)
        boats[start] -= 1
        boats[end] += 1
    return boats


def leads(canal, one, other, water):
    """Whether one comes to other; Others."""
    be_alone(one, water)
    be_alone(other, water)
    if boats_behind(canal, one, other, water) != list(boats_of(other, water)):
        return False
    barred = asleep(canal, one, water)
    ends = [end for lock in unlike_locks(one, other) for end in ends_of(canal[2][lock], water)]
    return not any([end in barred for end in ends])


def first_ready(canal, standing, water, locks):
    """The first of the locks by which a boat may go; None where none may."""
    for lock in locks:
        if has_boat(canal, standing, lock, water):
            return lock
    return None


def nearest_road(canal, standing, water, locks):
    """A shortest row that brings a boat to where one of the locks is gone from."""
    starts = [from_and_to(canal, standing, lock, water)[0] for lock in locks]
    told = roads(canal, standing, water)
    return min([told[start] for start in starts], key=len)


def row_alone(canal, one, other, water):
    """A list of GOINGs that leads from one to other; None where none does; Others.

    Where boats are as the locks ask, and no lock that is left has a boat, these are rings without boats:
    a boat comes to one by a road, goes around, and back by the very same road.
    """
    if not leads(canal, one, other, water):
        return None
    now, row, road = one, [], []
    left = unlike_locks(one, other)
    while left:
        lock = first_ready(canal, now, water, left)
        if lock is not None:
            left.remove(lock)
            more = [(lock, water)]
        elif road:
            more, road = road[::-1], []
        else:
            more = road = nearest_road(canal, now, water, left)
        now = gone_all(canal, now, more)
        row += more
    return row + road[::-1]


def woken(canal, standing, water, basin):
    """The least of the shortest rows behind which a boat lies in the basin; None where it's asleep; Others."""
    be_alone(standing, water)
    return roads(canal, standing, water).get(basin)
