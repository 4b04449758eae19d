"""What each deed makes of a kept canal.

All that is kept of one moment is a tuple (canal, standing, hands, went): hands and went are, as a STANDING is,
tuples of numbers. No deed changes it, so what was before a deed stays as it was.
"""

from crosslocks.canals import basins_of
from crosslocks.counts import almanac
from crosslocks.errors import NoBasin, NoLock, Short
from crosslocks.goings import gone
from crosslocks.plain import is_place, tupled
from crosslocks.tolls import paid
from crosslocks.words import RED


def noughts(many):
    return tuple([0 for each in range(many)])


def begun(canal, standing):
    """What is kept before all deeds."""
    reds, blues, locks = tupled(canal)
    low = noughts(len(locks))
    return (reds, blues, locks), tupled(standing), (noughts(reds), noughts(blues), low), (low, low)


def place_of(water):
    """Where a water's numbers are in a STANDING, in hands and in went."""
    return 0 if water == RED else 1


def more_at(parts, place, at, more):
    """The same tuple of tuples with so much more at one number."""
    part = parts[place]
    changed = part[:at] + (part[at] + more,) + part[at + 1:]
    return parts[:place] + (changed,) + parts[place + 1:]


def seek_lock(moment, lock):
    if not is_place(lock, len(moment[0][2])):
        raise NoLock(lock)


def seek_basin(moment, water, basin):
    if not is_place(basin, basins_of(moment[0], water)):
        raise NoBasin(basin)


def gone_by(moment, lock, water):
    """Behind a going; NoLock, then NoBoat."""
    seek_lock(moment, lock)
    canal, standing, hands, went = moment
    more = 1 if standing[2][lock] == 0 else -1
    return canal, gone(canal, standing, (lock, water)), hands, more_at(went, place_of(water), lock, more)


def gone_by_all(moment, goings):
    """Behind a list of goings; NoLock or NoBoat of the first that's refused."""
    for lock, water in goings:
        moment = gone_by(moment, lock, water)
    return moment


def by_hand(moment, place, at, more):
    """Behind so much more at one number of the STANDING, put there by hand."""
    canal, standing, hands, went = moment
    return canal, more_at(standing, place, at, more), more_at(hands, place, at, more), went


def filled(moment, water, basin, many):
    """Behind so many boats more; NoBasin."""
    seek_basin(moment, water, basin)
    return by_hand(moment, place_of(water), basin, many)


def drained(moment, water, basin, many):
    """Behind so many boats fewer; NoBasin, then Short."""
    seek_basin(moment, water, basin)
    lacks = many - moment[1][place_of(water)][basin]
    if lacks > 0:
        raise Short(lacks)
    return by_hand(moment, place_of(water), basin, -many)


def turned(moment, lock):
    """Behind a lock's turn by hand; NoLock."""
    seek_lock(moment, lock)
    return by_hand(moment, 2, lock, 1 if moment[1][2][lock] == 0 else -1)


def dug(moment, a, c, x, y):
    """Behind a LOCK more; NoBasin of the first basin that isn't there."""
    (reds, blues, locks), standing, hands, went = moment
    for basin, many in ((a, reds), (c, reds), (x, blues), (y, blues)):
        if not is_place(basin, many):
            raise NoBasin(basin)
    canal = reds, blues, locks + ((a, c, x, y),)
    return canal, with_low(standing), with_low(hands), (went[0] + (0,), went[1] + (0,))


def with_low(parts):
    """The same with 0 for one lock more."""
    return parts[0], parts[1], parts[2] + (0,)


def first_with_hands(first, last):
    """What was at first, dug locks low, with what was done by hand till last."""
    canal, standing, hands, went = last
    reds, blues, stands = first[1]
    stands += noughts(len(canal[2]) - len(stands))
    return [
        [here + more for here, more in zip(part, by)] for part, by in zip((reds, blues, stands), hands)]


def almanac_of(first, last):
    """The almanac of what was at first, with hands added, and what stands at last."""
    return almanac(last[0], first_with_hands(first, last), last[1])


def paid_of(first, last, tolls):
    """The pair (what, step) of the same."""
    return paid(last[0], tolls, first_with_hands(first, last), last[1])
