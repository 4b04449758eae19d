"""Maps for the tests, and what the document says of maps, worked out apart from the package."""

import random
from itertools import combinations

ONE_BASIN = ((),)
ONE_LOCK = (((0, 0),), ((0, 1),))
LOOP = (((0, 0), (0, 1)),)
# Two locks from a basin to itself: side by side, one within the other, and across one another.
TWO_LOOPS = (((0, 0), (0, 1), (1, 0), (1, 1)),)
NESTED = (((0, 0), (1, 0), (1, 1), (0, 1)),)
CROSSED = (((0, 0), (1, 0), (0, 1), (1, 1)),)
# Locks side by side between two basins.
PAIR = (((0, 0), (1, 0)), ((1, 1), (0, 1)))
THREE = (((0, 0), (1, 0), (2, 0)), ((2, 1), (1, 1), (0, 1)))
# The same, but around the other basin in the same order, so that they cross.
TWISTED = (((0, 0), (1, 0), (2, 0)), ((0, 1), (1, 1), (2, 1)))
# A hub, basin 0, and a rim of three.
HUB = (((0, 0), (1, 0), (2, 0)), ((0, 1), (5, 1), (3, 0)), ((1, 1), (3, 1), (4, 0)), ((2, 1), (4, 1), (5, 0)))
BY_HAND = [ONE_BASIN, ONE_LOCK, LOOP, TWO_LOOPS, NESTED, CROSSED, PAIR, THREE, TWISTED, HUB]


def round_of(many):
    """So many red basins in a ring."""
    return tuple((((lock - 1) % many, 1), (lock, 0)) for lock in range(many))


def next_end(chart, end):
    """Along the lock to the other end, and there to the next one with the clock."""
    other = end[0], {0: 1, 1: 0}[end[1]]
    for basin in chart:
        if other in basin:
            return (basin + basin)[basin.index(other) + 1]
    raise AssertionError((chart, end))


def faces_in(chart):
    told = []
    for basin in chart:
        for end in basin:
            if any(end in face for face in told):
                continue
            face = [end]
            while next_end(chart, face[-1]) != end:
                face.append(next_end(chart, face[-1]))
            told.append(face)
    return told or [[]]


def locks_in(chart):
    return sum(len(basin) for basin in chart) // 2


def basin_with(chart, end):
    return [basin for basin, ends in enumerate(chart) if end in ends][0]


def canal_in_chart(chart):
    rings = faces_in(chart)
    return len(chart), len(rings), tuple(
        (basin_with(chart, (lock, 0)), basin_with(chart, (lock, 1)), basin_with(rings, (lock, 1)), basin_with(rings, (lock, 0)))
        for lock in range(locks_in(chart)))


def trees_in(canal):
    """All sets of so many locks as join all red basins, looked at one by one."""
    reds, blues, locks = canal
    return sum(joins_all(reds, chosen) for chosen in combinations(locks, reds - 1))


def joins_all(reds, locks):
    seen, before = {0}, None
    while before != seen:
        before = set(seen)
        for a, c, x, y in locks:
            if a in seen or c in seen:
                seen |= {a, c}
    return len(seen) == reds


def put(chart, basin, at, end):
    return tuple(ends[:at] + (end,) + ends[at:] if place == basin else ends for place, ends in enumerate(chart))


def corner(chart, chance, face):
    """A place within the face: the basin and where in it, just ahead of an end of the face."""
    if not face:
        return 0, 0
    end = chance.choice(face)
    basin = basin_with(chart, end)
    return basin, chart[basin].index(end)


def some_flat(chance, reds, locks):
    """A flat MAP: from one basin on, each lock is put within one face, to a new basin or to one of its own."""
    chart = ONE_BASIN
    for lock in range(locks):
        face = chance.choice(faces_in(chart))
        sides = chance.sample((0, 1), 2)
        basin, at = corner(chart, chance, face)
        # With too few locks left for the basins that lack each leads to a new one.
        if len(chart) < reds and (locks - lock <= reds - len(chart) or chance.random() < 0.5):
            chart = put(chart, basin, at, (lock, sides[0])) + (((lock, sides[1]),),)
        else:
            other, there = corner(chart, chance, face)
            chart = put(chart, basin, at, (lock, sides[0]))
            # What stood behind in the same basin stands one further now.
            there += other == basin and (there > at or there == at and chance.random() < 0.5)
            chart = put(chart, other, there, (lock, sides[1]))
    return shuffled(chance, chart)


def shuffled(chance, chart):
    """The same with its basins and locks in another order, and each basin's ends from another one on."""
    names = chance.sample(range(locks_in(chart)), locks_in(chart))
    basins = [tuple((names[lock], side) for lock, side in ends) for ends in chance.sample(chart, len(chart))]
    turned = []
    for ends in basins:
        first = chance.randrange(len(ends) + 1)
        turned.append(ends[first:] + ends[:first])
    return tuple(turned)


def some_map(chance, reds, locks):
    """A MAP, seldom flat: each end stands just anywhere."""
    chart = ONE_BASIN
    for lock in range(max(locks, reds - 1)):
        basin = chance.randrange(len(chart))
        chart = put(chart, basin, chance.randrange(len(chart[basin]) + 1), (lock, 0))
        if len(chart) < reds:
            chart += (((lock, 1),),)
        else:
            basin = chance.randrange(len(chart))
            chart = put(chart, basin, chance.randrange(len(chart[basin]) + 1), (lock, 1))
    return shuffled(chance, chart)


def flat_maps(many=60):
    chance = random.Random(500)
    flat = [chart for chart in BY_HAND if chart not in (CROSSED, TWISTED)] + [round_of(size) for size in range(1, 9)]
    for _ in range(many):
        reds = chance.randint(1, 8)
        flat.append(some_flat(chance, reds, chance.randint(reds - 1, 10)))
    return flat + [some_flat(chance, 4, 10) for _ in range(5)] + [some_flat(chance, 8, 10) for _ in range(5)]


def all_maps(many=60):
    chance = random.Random(501)
    found = [some_map(chance, chance.randint(1, 8), chance.randint(0, 10)) for _ in range(many)]
    return flat_maps(many) + [CROSSED, TWISTED] + found
