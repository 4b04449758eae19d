"""What the document says of counts, heights, measures and tellers, worked out apart from the package.

What is asked by size is worked out by minors: the determinants of all square parts of so many
rows and columns. Their greatest common part tells all that the package tells by other means.
"""

import random
from fractions import Fraction
from itertools import combinations
from math import gcd

from tests.samples import BARE, CANALS, RING, some_canal, some_row, some_standing

# Its only rounds are multiples of [2, 1, 1, 1].
TWICE = (3, 3, ((0, 1, 0, 1), (1, 0, 1, 2), (1, 2, 2, 0), (2, 0, 1, 0)))
# Locks side by side, and the third the other way about.
BESIDE = (2, 2, ((0, 1, 0, 1), (0, 1, 0, 1), (1, 0, 1, 0)))
SELVES = (2, 3, ((0, 0, 1, 1), (1, 1, 2, 2), (0, 0, 0, 0)))
# Four red basins, each two joined, drawn flat with a blue basin within each face, and one without:
# sixteen sets of locks join all red basins without a ring.
FOUR = (4, 4, ((0, 1, 0, 2), (0, 2, 1, 0), (0, 3, 2, 1), (1, 2, 0, 3), (2, 3, 1, 3), (3, 1, 2, 3)))


# Small canals with measures, strides and tellers of many kinds.
KINDS = [
    (2, 3, ((1, 0, 0, 1), (1, 0, 1, 1), (1, 1, 2, 1), (0, 1, 0, 1))),
    (3, 3, ((0, 2, 0, 1), (2, 0, 0, 2), (0, 2, 0, 2), (0, 1, 1, 0), (0, 2, 1, 2))),
    (3, 4, ((2, 1, 1, 3), (2, 1, 0, 1), (1, 0, 0, 3), (2, 2, 1, 3), (2, 0, 3, 0), (1, 2, 1, 2))),
    (2, 2, ((1, 0, 1, 1), (0, 1, 0, 1), (1, 0, 0, 1))),
    (3, 3, ((2, 0, 0, 1), (1, 2, 2, 0), (2, 2, 0, 2), (1, 2, 0, 1), (0, 1, 2, 1))),
    (4, 3, ((0, 3, 2, 1), (0, 1, 1, 2), (2, 1, 2, 0), (3, 3, 0, 1), (0, 2, 1, 0), (2, 3, 1, 0))),
    (3, 4, ((1, 0, 3, 2), (2, 1, 0, 2), (1, 0, 1, 3), (0, 2, 1, 2), (1, 2, 0, 3), (0, 2, 1, 3))),
    (4, 3, ((3, 1, 1, 0), (3, 1, 0, 1), (0, 2, 0, 1), (3, 2, 1, 0), (0, 3, 1, 0))),
    (2, 3, ((1, 0, 1, 0), (1, 0, 0, 1), (0, 1, 2, 1))),
    (2, 3, ((1, 0, 0, 2), (0, 0, 1, 0), (0, 1, 1, 2))),
    (3, 2, ((2, 0, 1, 1), (1, 0, 0, 1), (1, 0, 1, 0), (2, 2, 0, 0))),
    (2, 2, ((1, 0, 0, 1), (1, 1, 0, 0), (1, 0, 1, 0))),
    (3, 4, ((1, 2, 1, 3), (2, 0, 1, 2), (1, 0, 3, 1), (1, 0, 3, 2), (2, 0, 0, 3), (1, 2, 3, 2))),
    (4, 3, ((0, 1, 2, 0), (1, 1, 2, 0), (2, 3, 0, 2), (0, 2, 0, 1), (3, 1, 2, 1), (1, 3, 2, 1))),
    (2, 4, ((1, 0, 2, 3), (0, 1, 1, 0), (0, 1, 2, 1), (0, 0, 2, 0), (1, 0, 3, 0))),
    (3, 4, ((0, 1, 3, 0), (1, 2, 1, 0), (2, 0, 3, 2), (0, 1, 1, 1), (1, 2, 3, 1), (0, 2, 0, 2))),
    (4, 4, ((3, 1, 0, 2), (0, 2, 2, 0), (2, 1, 0, 1), (3, 2, 2, 1), (2, 1, 1, 0))),
    (3, 4, ((2, 0, 3, 1), (0, 1, 3, 2), (1, 2, 2, 0), (1, 0, 3, 2), (2, 1, 2, 0), (1, 2, 0, 2))),
    (4, 4, ((2, 0, 0, 2), (1, 3, 2, 3), (3, 1, 2, 3), (2, 1, 3, 0), (1, 0, 1, 0), (3, 2, 3, 1))),
    (2, 4, ((0, 1, 1, 3), (1, 0, 2, 3), (0, 0, 0, 3), (1, 0, 2, 3), (0, 1, 2, 1))),
    (4, 3, ((1, 2, 2, 0), (2, 0, 1, 2), (2, 3, 0, 1), (1, 0, 2, 1), (3, 1, 0, 1), (1, 0, 0, 2))),
    (4, 4, ((1, 0, 0, 3), (2, 1, 2, 3), (3, 3, 1, 1), (0, 1, 0, 2), (2, 0, 0, 2), (0, 3, 3, 2))),
    (3, 3, ((1, 2, 1, 2), (2, 0, 1, 2), (2, 0, 0, 1), (0, 2, 2, 1), (1, 0, 2, 0))),
    (4, 4, ((2, 3, 2, 1), (2, 3, 0, 2), (3, 0, 3, 1), (1, 2, 0, 3), (2, 1, 0, 3), (0, 1, 1, 1))),
    (4, 4, ((2, 1, 3, 0), (3, 2, 3, 1), (0, 1, 3, 2), (3, 1, 0, 3), (1, 0, 0, 2), (1, 2, 1, 2))),
]


def ring_of(many):
    """So many red basins in a ring around a blue basin within, another one without."""
    return many, 2, tuple((basin, (basin + 1) % many, 0, 1) for basin in range(many))


def beside(one, other):
    """Both canals beside one another."""
    moved = tuple((a + one[0], c + one[0], x + one[1], y + one[1]) for a, c, x, y in other[2])
    return one[0] + other[0], one[1] + other[1], one[2] + moved


def is_whole(thing):
    return type(thing) is int


def are_whole(kind, thing, many):
    return type(thing) is kind and len(thing) == many and all(is_whole(part) for part in thing)


def fits(canal, one, other, thing):
    """Whether a thing is COUNTS of both: basin by basin as the document says."""
    reds, blues, locks = canal
    if not are_whole(list, thing, len(locks)):
        return False
    for basin in range(reds):
        more = sum(thing[at] for at, lock in enumerate(locks) if lock[1] == basin)
        more -= sum(thing[at] for at, lock in enumerate(locks) if lock[0] == basin)
        if other[0][basin] - one[0][basin] != more:
            return False
    for basin in range(blues):
        higher = [other[2][at] - one[2][at] - thing[at] for at in range(len(locks))]
        more = sum(higher[at] for at, lock in enumerate(locks) if lock[3] == basin)
        more -= sum(higher[at] for at, lock in enumerate(locks) if lock[2] == basin)
        if other[1][basin] - one[1][basin] != more:
            return False
    return True


def goes_round(canal, thing):
    """Whether a thing is a ROUND: COUNTS of any standing and itself."""
    none = (0,) * canal[0], (0,) * canal[1], (0,) * len(canal[2])
    return fits(canal, none, none, thing)


def apart(canal, reds, blues):
    """Lock by lock the reds' climb less the blues'."""
    told = []
    for a, c, x, y in canal[2]:
        red_climb = reds[c] - reds[a]
        blue_climb = blues[y] - blues[x]
        told.append(red_climb - blue_climb)
    return told


def are_heights(canal, thing):
    if type(thing) is not tuple or len(thing) != 3:
        return False
    measure, reds, blues = thing
    if not is_whole(measure) or measure == 1 or measure < 0:
        return False
    if not are_whole(tuple, reds, canal[0]) or not are_whole(tuple, blues, canal[1]):
        return False
    if measure == 0:
        return set(apart(canal, reds, blues)) <= {0}
    return all(number % measure == 0 for number in apart(canal, reds, blues))


def weighs(canal, heights, standing):
    measure, reds, blues = heights
    told = 0
    for basin, boats in enumerate(standing[0]):
        told += boats * reds[basin]
    for basin, boats in enumerate(standing[1]):
        told += boats * blues[basin]
    for (a, c, x, y), stand in zip(canal[2], standing[2]):
        if stand == 1:
            told -= blues[y] - blues[x]
    return told % measure if measure else told


def bars(canal, one, other, thing):
    return are_heights(canal, thing) and weighs(canal, thing, one) != weighs(canal, thing, other)


def tells(canal, lock, thing):
    """Whether a thing is a TELLER of the lock."""
    if type(thing) is not tuple or len(thing) != 3:
        return False
    many, reds, blues = thing
    if not is_whole(many) or many < 1:
        return False
    if not are_whole(tuple, reds, canal[0]) or not are_whole(tuple, blues, canal[1]):
        return False
    wanted = [0] * len(canal[2])
    wanted[lock] = many
    return apart(canal, reds, blues) == wanted


def rows_of(canal):
    """A row for each basin, a number for each lock."""
    reds, blues, locks = canal
    red_rows = [[(lock[1] == basin) - (lock[0] == basin) for lock in locks] for basin in range(reds)]
    blue_rows = [[(lock[2] == basin) - (lock[3] == basin) for lock in locks] for basin in range(blues)]
    return red_rows + blue_rows


def needed(canal, one, other):
    """What the rows come to, row by row, by COUNTS of both."""
    told = [other[0][basin] - one[0][basin] for basin in range(canal[0])]
    for basin in range(canal[1]):
        higher = [(other[2][at] - one[2][at]) * ((y == basin) - (x == basin)) for at, (a, c, x, y) in enumerate(canal[2])]
        told.append(other[1][basin] - one[1][basin] - sum(higher))
    return told


def rank(rows):
    rows = [[Fraction(number) for number in row] for row in rows]
    found = 0
    for at in range(len(rows[0]) if rows else 0):
        lead = next((k for k in range(found, len(rows)) if rows[k][at]), None)
        if lead is None:
            continue
        rows[found], rows[lead] = rows[lead], rows[found]
        for k in range(found + 1, len(rows)):
            times = rows[k][at] / rows[found][at]
            rows[k] = [here - times * there for here, there in zip(rows[k], rows[found])]
        found += 1
    return found


def determinant(rows):
    if not rows:
        return 1
    told = 0
    for at, number in enumerate(rows[0]):
        if number:
            told += (-1) ** at * number * determinant([row[:at] + row[at + 1:] for row in rows[1:]])
    return told


def minors(rows, size):
    """The greatest common part of all minors of that size; 1 of size 0."""
    if size == 0:
        return 1
    told = 0
    for chosen in combinations(rows, size):
        for columns in combinations(range(len(rows[0])), size):
            told = gcd(told, determinant([[row[at] for at in columns] for row in chosen]))
            if told == 1:
                return 1
    return told


def with_lock(canal, lock):
    """The rows of the canal and one that has 1 at that lock alone."""
    return rows_of(canal) + [[int(at == lock) for at in range(len(canal[2]))]]


def solvable(canal, one, other):
    """Whether there are COUNTS."""
    rows = rows_of(canal)
    wider = [row + [number] for row, number in zip(rows, needed(canal, one, other))]
    many = rank(rows)
    return rank(wider) == many and minors(wider, many) == minors(rows, many)


def is_sure(canal, lock):
    return rank(with_lock(canal, lock)) == rank(rows_of(canal))


def many_of(canal, lock):
    """The least many of a TELLER of a sure lock."""
    many = rank(rows_of(canal))
    return minors(rows_of(canal), many) // minors(with_lock(canal, lock), many)


def stride_of(canal, lock):
    """The stride of a lock that isn't sure."""
    many = rank(rows_of(canal))
    return minors(with_lock(canal, lock), many + 1) // minors(rows_of(canal), many)


def measures_of(canal):
    rows = rows_of(canal)
    many = rank(rows)
    parts = [minors(rows, size) for size in range(many + 1)]
    steps = [parts[at + 1] // parts[at] for at in range(many)]
    return [step for step in steps if step != 1] + [0] * (len(rows) - many)


SMALL = KINDS + [
    RING, BARE, TWICE, BESIDE, SELVES, FOUR, ring_of(1), ring_of(2), ring_of(3), ring_of(4), (1, 3, ()),
    (2, 1, ((0, 1, 0, 0),))]


def small_canals(many=60):
    """Canals that are small enough for minors, the same ones each time."""
    chance = random.Random(20)
    return SMALL + [some_canal(chance, 3, 5) for _ in range(many)]


def all_canals(many=60):
    """Small ones and ones up to the bounds, the same ones each time."""
    chance = random.Random(21)
    large = [some_canal(chance) for _ in range(many)] + [large_canal(chance) for _ in range(many // 4)]
    return small_canals(many) + CANALS + large


def large_canal(chance):
    """A canal with just as many basins and locks as the bounds let."""
    return 8, 8, tuple(tuple(chance.randrange(8) for _ in range(4)) for _ in range(10))


def moved(canal, standing, numbers, stands):
    """What stands where the locks' numbers are so and they stand so at last; it may lack boats."""
    reds, blues = list(standing[0]), list(standing[1])
    for at, (a, c, x, y) in enumerate(canal[2]):
        reds[a] -= numbers[at]
        reds[c] += numbers[at]
        back = numbers[at] - (stands[at] - standing[2][at])
        blues[x] += back
        blues[y] -= back
    return tuple(reds), tuple(blues), tuple(stands)


def some_pair(chance, canal, boats=10 ** 12):
    """Two standings that have COUNTS, and these, with numbers as great as the boats let."""
    half = boats // 2
    one = (half,) * canal[0], (half,) * canal[1], some_standing(chance, canal)[2]
    most = max(1, half // 20)
    numbers = [chance.randint(-most, most) for _ in canal[2]]
    return one, moved(canal, one, numbers, some_standing(chance, canal)[2]), numbers


def some_ends(chance, canal, many=60):
    """What stands at both ends of a row, and what really went by it."""
    standing = some_standing(chance, canal)
    row, times = some_row(chance, canal, standing, many)
    reds, blues = [0] * len(canal[2]), [0] * len(canal[2])
    for (lock, water), now in zip(row, times):
        (reds if water == "red" else blues)[lock] += 1 - 2 * now[2][lock]
    return standing, times[-1], reds, blues


def other_boats(standing):
    """Standings with a boat more, and with a boat elsewhere."""
    for water in (0, 1):
        for basin in range(len(standing[water])):
            yield changed(standing, water, basin, 1)
            for other in range(len(standing[water])):
                if other != basin and standing[water][other]:
                    yield changed(changed(standing, water, basin, 1), water, other, -1)


def changed(standing, water, basin, more):
    parts = [list(part) for part in standing]
    parts[water][basin] += more
    return tuple(tuple(part) for part in parts)


def variants(thing):
    """Things with one part, at any depth, or all of it, put otherwise: some may be right all the same."""
    yield from (None, True, False, 0, 1, 2, -1, 10 ** 30, "", "0", "abc", [], (), [thing], (thing,), [[[0]]])
    if type(thing) is int:
        yield from (thing + 1, thing - 1, -thing, 2 * thing, bool(thing), str(thing))
    if isinstance(thing, (list, tuple)):
        kind = type(thing)
        yield list(thing) if kind is tuple else tuple(thing)
        yield kind(reversed(thing))
        yield kind([*thing, 0])
        yield kind([*thing, *thing])
        yield kind(thing[1:])
        yield kind(thing[:-1])
        for at, part in enumerate(thing):
            for other in variants(part):
                yield kind([*thing[:at], other, *thing[at + 1:]])
