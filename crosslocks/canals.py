"""Canals and standings: which things are such, and canals made of other ones."""

from crosslocks.plain import is_number_from, is_place, is_tuple_of, tupled
from crosslocks.words import RED


def is_lock(reds, blues, thing):
    """Whether a thing is a LOCK between so many red basins and so many blue ones."""
    if not is_tuple_of(thing, 4):
        return False
    a, c, x, y = thing
    return is_place(a, reds) and is_place(c, reds) and is_place(x, blues) and is_place(y, blues)


def is_canal(thing):
    """Whether a thing is a CANAL."""
    if not is_tuple_of(thing, 3):
        return False
    reds, blues, locks = thing
    if not is_number_from(reds, 1) or not is_number_from(blues, 1) or not isinstance(locks, tuple):
        return False
    return all([is_lock(reds, blues, lock) for lock in locks])


def are_boats(thing, many):
    """Whether a thing tells how many boats lie in each of so many basins."""
    return is_tuple_of(thing, many) and all([is_number_from(boats, 0) for boats in thing])


def are_stands(thing, many):
    """Whether a thing tells of each of so many locks if it stands low, 0, or high, 1."""
    return is_tuple_of(thing, many) and all([is_place(stand, 2) for stand in thing])


def is_standing(canal, thing):
    """Whether a thing is a STANDING of the canal."""
    if not is_tuple_of(thing, 3):
        return False
    reds, blues, locks = canal
    red_boats, blue_boats, stands = thing
    return are_boats(red_boats, reds) and are_boats(blue_boats, blues) and are_stands(stands, len(locks))


def exchanged(canal):
    """The CANAL whose red basins are this one's blue ones and the other way about."""
    reds, blues, locks = canal
    return blues, reds, tuple([(x, y, a, c) for a, c, x, y in locks])


def exchanged_standing(standing):
    """The STANDING of the exchanged canal; its locks stand as they stood."""
    reds, blues, locks = tupled(standing)
    return blues, reds, locks


def together(one, other):
    """The CANAL of both beside one another, other's basins and locks numbered on behind one's."""
    reds, blues, locks = tupled(one)
    more_reds, more_blues, more_locks = other
    moved = [(a + reds, c + reds, x + blues, y + blues) for a, c, x, y in more_locks]
    return reds + more_reds, blues + more_blues, locks + tuple(moved)


def basins_of(canal, water):
    """How many basins of that water there are."""
    return canal[0] if water == RED else canal[1]


def ends_of(lock, water):
    """The pair of the basins of that water that a LOCK leads from and to, forth."""
    a, c, x, y = lock
    return (a, c) if water == RED else (x, y)


def pieces(canal, water):
    """The rising list of rising tuples of the basins of that water that hang together by locks."""
    marks = list(range(basins_of(canal, water)))
    for lock in canal[2]:
        start, end = ends_of(lock, water)
        kept, dropped = marks[start], marks[end]
        marks = [kept if mark == dropped else mark for mark in marks]
    # A dict keeps the order of its keys, so each piece stands where its first basin does.
    members = {}
    for basin, mark in enumerate(marks):
        if mark not in members:
            members[mark] = []
        members[mark].append(basin)
    return [tuple(basins) for basins in members.values()]
