"""Canals, standings and rows for the tests, and how the tests compare what is told."""

import random
import unittest

RING = (3, 3, ((0, 1, 0, 1), (1, 2, 1, 2), (2, 0, 2, 0)))
LOOPS = (2, 1, ((0, 0, 0, 0), (1, 1, 0, 0), (0, 1, 0, 0)))
BARE = (1, 1, ())
WIDE = (4, 2, ((0, 2, 1, 0), (3, 3, 0, 1)))
FULL = (8, 8, (
    (0, 1, 7, 6), (1, 2, 6, 5), (2, 3, 5, 4), (3, 4, 4, 3), (4, 5, 3, 2),
    (5, 6, 2, 1), (6, 7, 1, 0), (7, 0, 0, 7), (3, 3, 2, 6), (5, 1, 4, 4)))
CANALS = [RING, LOOPS, BARE, WIDE, FULL]


# Things of all kinds that hardly anything tells True of.
ODD = [
    None, True, False, 0, 1, 2, 3, -1, 10 ** 30, "", "a", "abc", "red", "((1, 1, ()))",
    (), [], (None,), [None], (1,), (1, 1), (1, 1, 1), (1, 1, 1, 1), [1, 1, []], [1, 1, ()], ("1", "1", ()),
    ((), (), ()), [[], [], []], ((), ()), ("", "", ""), (None, None, None), (True, True, True), ((1, 1, ()),), [(1, 1, ())]]


def deep(many, inmost, kinds):
    """A thing so many deep of the kinds by turns."""
    for depth in range(many):
        inmost = kinds[depth % len(kinds)]([inmost])
    return inmost


KINDS = ([list], [tuple], [list, tuple], [tuple, list])
DEEP = [
    deep(many, inmost, kinds) for many in range(1, 8) for inmost in (1, "a", None, True, (), (1, 1, ()))
    for kinds in KINDS]
DEEPEST = [deep(10, inmost, kinds) for inmost in (1, "a", None, True) for kinds in KINDS]


def spoilt(thing):
    """The thing with one part of it, at any depth, or itself, put wrong: nowhere is any of these right."""
    yield from (None, True, False, "", "0", "abc", [], [thing], (thing,), -1, -(10 ** 12))
    if isinstance(thing, tuple):
        yield list(thing)
        for at, part in enumerate(thing):
            for wrong in spoilt(part):
                yield thing[:at] + (wrong,) + thing[at + 1:]


def exact(thing):
    """A form in which 1 and True, and a list and a tuple of the same, are unlike."""
    if isinstance(thing, (list, tuple)):
        return (type(thing).__name__, [exact(part) for part in thing])
    return (type(thing).__name__, thing)


def listed(thing):
    """The same with lists for tuples, at any depth."""
    if isinstance(thing, (list, tuple)):
        return [listed(part) for part in thing]
    return thing


def tupled(thing):
    """The same with tuples for lists, at any depth."""
    if isinstance(thing, (list, tuple)):
        return tuple(tupled(part) for part in thing)
    return thing


def mixed(thing, depth=0):
    """The same with lists and tuples by turns, from the outside in."""
    if isinstance(thing, (list, tuple)):
        parts = [mixed(part, depth + 1) for part in thing]
        return parts if depth % 2 else tuple(parts)
    return thing


def emptied(thing):
    """Clears all lists of a thing, at any depth, in place."""
    if isinstance(thing, (list, tuple)):
        for part in thing:
            emptied(part)
    if isinstance(thing, list):
        thing.clear()


def some_canal(chance, basins=8, locks=10):
    reds, blues = chance.randint(1, basins), chance.randint(1, basins)
    return (reds, blues, tuple(
        (chance.randrange(reds), chance.randrange(reds), chance.randrange(blues), chance.randrange(blues))
        for _ in range(chance.randint(0, locks))))


def some_standing(chance, canal, boats=3):
    return (
        tuple(chance.randint(0, boats) for _ in range(canal[0])),
        tuple(chance.randint(0, boats) for _ in range(canal[1])),
        tuple(chance.randint(0, 1) for _ in canal[2]))


def many_canals(many=150):
    """The canals above, and ones by chance, the same ones each time."""
    chance = random.Random(4)
    return CANALS + [some_canal(chance) for _ in range(many)]


def many_standings(many=150, boats=3):
    """Pairs of a canal and a standing of it, the same ones each time."""
    chance = random.Random(5)
    return [(canal, some_standing(chance, canal, boats)) for canal in many_canals(many) for _ in range(2)]


def after(canal, standing, going):
    """The standing behind a going, None where it has no boat: told apart from the package."""
    lock, water = going
    red_from, red_to, blue_from, blue_to = canal[2][lock]
    boats = {}
    for basin, many in enumerate(standing[0]):
        boats["red", basin] = many
    for basin, many in enumerate(standing[1]):
        boats["blue", basin] = many
    path = [(water, red_from), (water, red_to)] if water == "red" else [(water, blue_from), (water, blue_to)]
    if standing[2][lock] == 1:
        path.reverse()
    if not boats[path[0]]:
        return None
    boats[path[0]] -= 1
    boats[path[1]] += 1
    stands = dict(enumerate(standing[2]))
    stands[lock] = {0: 1, 1: 0}[stands[lock]]
    return (
        tuple(boats["red", basin] for basin in range(canal[0])),
        tuple(boats["blue", basin] for basin in range(canal[1])),
        tuple(stands[lock] for lock in range(len(canal[2]))))


def some_row(chance, canal, standing, many):
    """A row of at most so many goings, none of them refused, and what stands at each time."""
    row, times = [], [standing]
    while len(row) < many:
        goings = [(lock, water) for lock in range(len(canal[2])) for water in ("red", "blue")]
        goings = [going for going in goings if after(canal, times[-1], going) is not None]
        if not goings:
            break
        row.append(chance.choice(goings))
        times.append(after(canal, times[-1], row[-1]))
    return row, times


class Case(unittest.TestCase):
    def same(self, told, wanted):
        """Told is just what's wanted: lists as lists, tuples as tuples, numbers as numbers."""
        self.assertEqual(exact(told), exact(wanted))

    def refused(self, error, field, worth, call, *places, **names):
        """The call is refused with just that class, and just that in its field."""
        with self.assertRaises(error) as caught:
            call(*places, **names)
        self.assertIs(type(caught.exception), error)
        self.same(getattr(caught.exception, field), worth)
