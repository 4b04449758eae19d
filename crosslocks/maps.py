"""Canals drawn as maps: their faces, which are flat, and how many sets of locks join all red basins."""

from crosslocks.canals import pieces
from crosslocks.plain import are_numbers, diagonal, is_tuple_of, tupled
from crosslocks.words import RED


def is_end(thing):
    """Whether a thing is a pair of numbers; which numbers is_map sees by all ends together."""
    return is_tuple_of(thing, 2) and are_numbers(thing)


def are_ends(thing):
    return isinstance(thing, tuple) and all([is_end(part) for part in thing])


def ends_in(chart):
    """All ends, as they stand in the MAP."""
    return [end for basin in chart for end in basin]


def both_ends(many):
    """The rising list of both ends of each of so many locks."""
    return [(lock, side) for lock in range(many) for side in (0, 1)]


def basins_by_end(chart):
    """For each end the basin where it is."""
    return {end: basin for basin, ends in enumerate(chart) for end in ends}


def hang_together(chart):
    """Whether all red basins hang together by locks."""
    basins = basins_by_end(chart)
    locks = [(basins[(lock, 0)], basins[(lock, 1)], 0, 0) for lock in range(len(basins) // 2)]
    return len(pieces((len(chart), 1, locks), RED)) == 1


def is_map(thing):
    """Whether a thing is a MAP."""
    if not isinstance(thing, tuple) or not all([are_ends(part) for part in thing]):
        return False
    ends = ends_in(thing)
    return sorted(ends) == both_ends(len(ends) // 2) and hang_together(thing)


def ends_behind(chart):
    """For each end the one that stands behind it in its face."""
    told = {}
    for ends in chart:
        for at, (lock, side) in enumerate(ends):
            # Who comes along the lock from its other end goes on to the next end with the clock.
            told[(lock, 1 - side)] = ends[(at + 1) % len(ends)]
    return told


def faces_of(chart):
    """As faces, of a MAP of tuples."""
    behind = ends_behind(chart)
    told, seen = [], {}
    for first in ends_in(chart):
        face, end = [], first
        while end not in seen:
            seen[end] = True
            face.append(end)
            end = behind[end]
        if face:
            told.append(face)
    return told if told else [[]]


def faces(chart):
    """The list of the lists of ends of each face, as their first ends stand, each from its first one on."""
    return faces_of(tupled(chart))


def is_flat(chart):
    """Whether red basins and faces are two more than locks."""
    return len(chart) + len(faces(chart)) == len(ends_in(chart)) // 2 + 2


def canal_of(chart):
    """The CANAL with the MAP's red basins and locks and a blue basin for each face."""
    basins = basins_by_end(tupled(chart))
    rings = faces(chart)
    places = basins_by_end(rings)
    locks = []
    for lock in range(len(basins) // 2):
        low, high = (lock, 0), (lock, 1)
        locks.append((basins[low], basins[high], places[high], places[low]))
    return len(chart), len(rings), tuple(locks)


def joins(canal):
    """For each red basin a list of what it has to do with each: with itself how many ends of locks to others
    it has, with another one as many below 0 as there are locks between."""
    rows = [[0 for other in range(canal[0])] for basin in range(canal[0])]
    for a, c, x, y in canal[2]:
        rows[a][a] += 1
        rows[c][c] += 1
        rows[a][c] -= 1
        rows[c][a] -= 1
    return rows


def trees(canal):
    """How many sets of locks there are that join all red basins with no ring."""
    # That many is the determinant of the joins without one basin. Rows and columns of the joins all come to 0,
    # so these have the same steps as without it, which multiply to the determinant where none lacks.
    steps = diagonal(joins(canal), canal[0])[0]
    if len(steps) < canal[0] - 1:
        return 0
    told = 1
    for step in steps:
        told *= step
    return told
