"""Rows where boats are plenty: the plain row of counts, how long it is, how many boats it wants."""

from crosslocks.canals import basins_of, ends_of
from crosslocks.counts import counts_by, form_of, loads_more, sure_by, went_by
from crosslocks.errors import Loose, NoCounts
from crosslocks.words import BLUE, RED


def many_goings(pair):
    reds, blues = pair
    return abs(reds) + abs(blues)


def waters_by_turns(stand, pair):
    """The waters that go by a lock, one behind the other, where it stands so at first."""
    reds = pair[0]
    # Where no red goes there's at most one going, a blue one, forth or back.
    forth = RED if reds > 0 else BLUE
    back = RED if reds < 0 else BLUE
    turns = (forth, back) if stand == 0 else (back, forth)
    return [turns[at % 2] for at in range(many_goings(pair))]


def plain_row(canal, one, other, counts):
    """The PLAIN ROW of the COUNTS, a list of GOINGs."""
    row = []
    for lock, pair in enumerate(went_by(one, other, counts)):
        row += [(lock, water) for water in waters_by_turns(one[2][lock], pair)]
    return row


def how_many(canal, one, other, counts):
    """How many goings the plain row has."""
    return sum([many_goings(pair) for pair in went_by(one, other, counts)])


def least_boats(canal, water, numbers):
    """The tuple of the fewest boats of that water's basins with which so many go by the locks, one lock after another.

    Other boats don't matter: each water has basins of its own, and by one lock all of a water go the same way.
    """
    now = [0 for basin in range(basins_of(canal, water))]
    lowest = list(now)
    for lock, number in zip(canal[2], numbers):
        start, end = ends_of(lock, water) if number > 0 else ends_of(lock, water)[::-1]
        times = abs(number)
        # Where it leads to the basin itself one boat is enough, however often it goes.
        lowest[start] = min(lowest[start], now[start] - (times if start != end else min(times, 1)))
        now[start] -= times
        now[end] += times
    return tuple([-low for low in lowest])


def wanted(canal, one, other, counts):
    """The pair of tuples of the fewest boats of each basin with which no going of the plain row is refused."""
    pairs = went_by(one, other, counts)
    reds = least_boats(canal, RED, [red for red, blue in pairs])
    return reds, least_boats(canal, BLUE, [blue for red, blue in pairs])


def has_all(boats, least):
    return all([there >= needed for there, needed in zip(boats, least)])


def is_enough(canal, one, other, counts):
    """Whether one has as many boats as the plain row wants."""
    reds, blues = wanted(canal, one, other, counts)
    return has_all(one[0], reds) and has_all(one[1], blues)


def fewest(canal, one, other):
    """How many goings a row between both has at least; Loose of the first lock that isn't sure, then NoCounts."""
    form = form_of(canal)
    told = sure_by(form)
    for lock in range(len(canal[2])):
        if lock not in told:
            raise Loose(lock)
    numbers = counts_by(form, loads_more(canal, one, other))
    if numbers is None:
        raise NoCounts()
    return how_many(canal, one, other, numbers)
