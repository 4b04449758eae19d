import random

from crosslocks.alone import asleep, leads, row_alone, woken
from crosslocks.canals import exchanged, exchanged_standing
from crosslocks.errors import Others
from crosslocks.goings import gone_all
from tests.apart import BESIDE, all_canals, changed, large_canal, ring_of
from tests.samples import (
    BARE, FULL, LOOPS, RING, WIDE, Case, listed, mixed, some_canal, some_row, some_standing, tupled)
from tests.through import all_alone, behind, only, rows_to_all

WATERS = ("red", "blue")
MOST = 10 ** 12
# A road of reds to a ring: 0 to 1, then 1 to 2 to 3 to 1.
LASSO = (4, 1, ((0, 1, 0, 0), (1, 2, 0, 0), (2, 3, 0, 0), (3, 1, 0, 0)))


def other_of(water):
    return "blue" if water == "red" else "red"


def boats_of(standing, water):
    return standing[0] if water == "red" else standing[1]


def ends(canal, lock, water):
    return canal[2][lock][:2] if water == "red" else canal[2][lock][2:]


def awake_in(canal, standing, water):
    """The basins that a boat comes to, by arrows as they stand."""
    seen = {basin for basin, boats in enumerate(boats_of(standing, water)) if boats}
    for _ in range(len(canal[2])):
        for lock in range(len(canal[2])):
            start, end = ends(canal, lock, water)[::-1 if standing[2][lock] else 1]
            if start in seen:
                seen.add(end)
    return seen


def asleep_in(canal, standing, water):
    return [basin for basin in range(len(boats_of(standing, water))) if basin not in awake_in(canal, standing, water)]


def some_alone(seed, many=20, boats=2):
    """Canals, waters, and standings of these alone, many of them with bare basins."""
    chance = random.Random(seed)
    for canal in all_canals(many) + [WIDE, LASSO, BARE]:
        for water in WATERS:
            standing = only(some_standing(chance, canal, boats), water)
            keep = chance.randrange(len(boats_of(standing, water)))
            lone = tuple(many if basin == keep else 0 for basin, many in enumerate(boats_of(standing, water)))
            yield canal, water, standing
            yield canal, water, (lone, standing[1], standing[2]) if water == "red" else (standing[0], lone, standing[2])


def tiny(seed, many=25):
    """Canals so small that all standings of a few boats are gone through."""
    chance = random.Random(seed)
    canals = [some_canal(chance, 4, 5) for _ in range(many)]
    canals += [RING, LOOPS, BARE, BESIDE, LASSO, (3, 1, ((0, 1, 0, 0), (1, 2, 0, 0), (2, 1, 0, 0)))]
    for canal in canals:
        for water in WATERS:
            for boats in (0, 1, 2):
                yield canal, water, list(all_alone(canal, water, boats))


def every_way(call, canal, *standings_water):
    standings, rest = standings_water[0], standings_water[1:]
    for make in (tupled, listed, mixed):
        yield call(make(canal), *[make(standing) for standing in standings], *rest)


class Asleep(Case):
    def test_the_rising_list(self):
        seen = 0
        for canal, water, standing in some_alone(400):
            wanted = asleep_in(canal, standing, water)
            seen += 0 < len(wanted) < len(boats_of(standing, water))
            with self.subTest((canal, water, standing)):
                for told in every_way(asleep, canal, [standing], water):
                    self.same(told, wanted)
        self.assertGreater(seen, 40)

    def test_low_and_high_locks_as_arrows(self):
        canal = (3, 1, ((0, 1, 0, 0), (1, 2, 0, 0)))
        for stands, lie, wanted in [
                ((0, 0), (1, 0, 0), []), ((0, 0), (0, 1, 0), [0]), ((0, 0), (0, 0, 1), [0, 1]),
                ((1, 1), (1, 0, 0), [1, 2]), ((1, 1), (0, 1, 0), [2]), ((1, 1), (0, 0, 1), []),
                ((0, 1), (1, 0, 0), [2]), ((0, 1), (0, 0, 1), [0]), ((1, 0), (0, 1, 0), []), ((1, 0), (1, 0, 0), [1, 2])]:
            self.same(asleep(canal, (lie, (0,), stands), "red"), wanted)
            self.same(asleep(exchanged(canal), ((0,), lie, stands), "blue"), wanted)

    def test_locks_from_a_basin_to_itself(self):
        canal = (2, 1, ((0, 0, 0, 0), (1, 1, 0, 0)))
        self.same(asleep(canal, ((1, 0), (0,), (0, 0)), "red"), [1])
        self.same(asleep(canal, ((0, 0), (1,), (0, 1)), "blue"), [])
        self.same(asleep(canal, ((0, 0), (0,), (0, 1)), "blue"), [0])

    def test_nobody_anywhere(self):
        for canal in all_canals(10):
            none = (0,) * canal[0], (0,) * canal[1], (0,) * len(canal[2])
            self.same(asleep(canal, none, "red"), list(range(canal[0])))
            self.same(asleep(canal, none, "blue"), list(range(canal[1])))

    def test_it_stays_so_for_ever(self):
        chance = random.Random(401)
        for canal, water, standing in some_alone(402, 10):
            row, times = some_row(chance, canal, standing, 20)
            for now in times:
                self.same(asleep(canal, now, water), asleep_in(canal, standing, water))

    def test_at_the_bounds(self):
        for canal in (FULL, ring_of(8), large_canal(random.Random(403))):
            reds, blues = canal[0], canal[1]
            stands = (0,) * len(canal[2])
            self.same(asleep(canal, ((MOST,) * reds, (0,) * blues, stands), "red"), [])
            self.same(asleep(canal, ((0,) * reds, (MOST,) * blues, stands), "blue"), [])
        self.same(asleep(ring_of(8), ((MOST,) + (0,) * 7, (0, 0), (0,) * 7 + (1,)), "red"), [])
        self.same(asleep(ring_of(8), ((MOST,) + (0,) * 7, (0, 0), (1,) + (0,) * 7), "red"), list(range(1, 8)))


class Leads(Case):
    def test_just_where_one_comes_to_other(self):
        chance = random.Random(410)
        seen = {True: 0, False: 0}
        for canal, water, standings in tiny(411):
            for one in chance.sample(standings, min(len(standings), 3)):
                rows = rows_to_all(canal, one, 10 ** 6)
                for other in standings:
                    comes = other in rows
                    seen[comes] += 1
                    if leads(canal, one, other, water) is not comes:
                        self.fail((canal, one, other, water, comes))
        self.assertGreater(min(seen.values()), 400)

    def test_as_the_document_says_it(self):
        chance = random.Random(412)
        for canal, water, one in some_alone(413):
            row, times = some_row(chance, canal, one, 12)
            for other in (times[-1], only(some_standing(chance, canal, 2), water)):
                boats, fine = list(boats_of(one, water)), True
                for lock in range(len(canal[2])):
                    start, end = ends(canal, lock, water)
                    higher = other[2][lock] - one[2][lock]
                    boats[start] -= higher
                    boats[end] += higher
                    fine = fine and not (higher and {start, end} & set(asleep_in(canal, one, water)))
                fine = fine and boats == list(boats_of(other, water))
                with self.subTest((canal, one, other, water)):
                    for told in every_way(leads, canal, [one, other], water):
                        self.assertIs(told, fine)
                    self.assertIs(leads(canal, other, one, water), fine)

    def test_both_ways_about(self):
        for canal, water, standings in tiny(414, 8):
            for one, other in zip(standings, standings[::-1]):
                self.assertIs(leads(canal, one, other, water), leads(canal, other, one, water))

    def test_by_hand(self):
        canal = (2, 2, ((0, 1, 0, 1),))
        self.assertIs(leads(canal, ((1, 0), (0, 0), (0,)), ((0, 1), (0, 0), (1,)), "red"), True)
        self.assertIs(leads(canal, ((1, 0), (0, 0), (0,)), ((0, 1), (0, 0), (0,)), "red"), False)
        self.assertIs(leads(canal, ((1, 0), (0, 0), (0,)), ((1, 0), (0, 0), (1,)), "red"), False)
        self.assertIs(leads(canal, ((0, 0), (0, 1), (1,)), ((0, 0), (1, 0), (0,)), "blue"), True)
        self.assertIs(leads(canal, ((0, 0), (1, 0), (1,)), ((0, 0), (1, 0), (0,)), "blue"), False)
        # The boats are as the locks ask, but a ring is asleep.
        none, turned = ((0, 0, 0), (0, 0), (0, 0, 0)), ((0, 0, 0), (0, 0), (1, 1, 1))
        self.assertIs(leads(ring_of(3), none, turned, "red"), False)
        self.assertIs(leads(ring_of(3), ((1, 0, 0), (0, 0), (0, 0, 0)), ((1, 0, 0), (0, 0), (1, 1, 1)), "red"), True)
        self.assertIs(leads(ring_of(3), none, none, "red"), True)
        self.assertIs(leads(BARE, ((1,), (0,), ()), ((2,), (0,), ()), "red"), False)
        # What sleeps may stand as it stood: only the locks that stand otherwise count.
        two = (4, 1, ((0, 1, 0, 0), (2, 3, 0, 0)))
        self.assertIs(leads(two, ((1, 0, 0, 0), (0,), (0, 0)), ((0, 1, 0, 0), (0,), (1, 0)), "red"), True)

    def test_boats_of_ten_to_the_twelve(self):
        one = (MOST, 0), (0, 0), (0,)
        self.assertIs(leads((2, 2, ((0, 1, 0, 1),)), one, ((MOST - 1, 1), (0, 0), (1,)), "red"), True)
        self.assertIs(leads((2, 2, ((0, 1, 0, 1),)), one, ((MOST - 2, 2), (0, 0), (1,)), "red"), False)


class RowAlone(Case):
    def shows(self, canal, one, other, water):
        """The row really leads there, by boats of that water alone."""
        for row in every_way(row_alone, canal, [one, other], water):
            with self.subTest((canal, one, other, water, row)):
                self.assertIs(type(row), list)
                self.same(behind(canal, one, row), other)
                self.same(gone_all(canal, one, row), other)
                self.assertTrue(all(type(going) is tuple and going[1] == water for going in row))
                self.assertLessEqual(len(row), 400)

    def test_a_row_that_leads_there_none_just_where_leads_is_false(self):
        chance = random.Random(420)
        for canal, water, standings in tiny(421, 25):
            for one in chance.sample(standings, min(len(standings), 2)):
                rows = rows_to_all(canal, one, 10 ** 6)
                for other in standings:
                    row = row_alone(canal, one, other, water)
                    if other in rows:
                        self.assertEqual(behind(canal, one, row), other, (canal, one, other))
                    else:
                        self.assertIs(row, None)

    def test_of_all_sizes(self):
        chance = random.Random(422)
        for canal, water, one in some_alone(423):
            row, times = some_row(chance, canal, one, chance.randint(0, 60))
            self.shows(canal, one, times[-1], water)
            self.shows(canal, times[-1], one, water)

    def test_nothing_goes_where_all_stands_alike(self):
        for canal, water, one in some_alone(424, 5):
            self.assertEqual(behind(canal, one, row_alone(canal, one, one, water)), one)

    def test_a_ring_without_boats_that_is_awake_by_a_road(self):
        one, other = ((1, 0, 0, 0), (0,), (0, 0, 0, 0)), ((1, 0, 0, 0), (0,), (0, 1, 1, 1))
        self.shows(LASSO, one, other, "red")
        self.shows(LASSO, other, one, "red")
        self.shows(exchanged(LASSO), exchanged_standing(one), exchanged_standing(other), "blue")
        # The ring the other way about, and the road by a high lock.
        self.shows(LASSO, ((1, 0, 0, 0), (0,), (0, 1, 1, 1)), one, "red")
        backward = (4, 1, ((1, 0, 0, 0), (1, 2, 0, 0), (2, 3, 0, 0), (3, 1, 0, 0)))
        self.shows(backward, ((2, 0, 0, 0), (0,), (1, 0, 0, 0)), ((2, 0, 0, 0), (0,), (1, 1, 1, 1)), "red")

    def test_a_ring_that_is_asleep(self):
        self.assertIs(row_alone(LASSO, ((1, 0, 0, 0), (0,), (1, 0, 0, 0)), ((1, 0, 0, 0), (0,), (1, 1, 1, 1)), "red"), None)
        self.assertIs(row_alone(ring_of(3), ((0,) * 3, (0, 0), (0,) * 3), ((0,) * 3, (0, 0), (1,) * 3), "red"), None)
        self.assertIs(row_alone(LOOPS, ((1, 0), (0,), (0, 0, 1)), ((1, 0), (0,), (0, 1, 1)), "red"), None)

    def test_several_rings_by_long_roads(self):
        # A road from 0 to 4, two rings of two locks at its end, one lock from 4 to itself.
        canal = (8, 1, (
            (0, 1, 0, 0), (1, 2, 0, 0), (2, 3, 0, 0), (3, 4, 0, 0), (4, 5, 0, 0), (5, 4, 0, 0), (4, 6, 0, 0), (6, 4, 0, 0),
            (4, 4, 0, 0), (5, 7, 0, 0)))
        lie = (1,) + (0,) * 7
        for rings in ((4, 5), (6, 7), (8,), (4, 5, 6, 7), (4, 5, 6, 7, 8), (8, 6, 7)):
            stands = tuple(int(lock in rings) for lock in range(10))
            self.shows(canal, (lie, (0,), (0,) * 10), (lie, (0,), stands), "red")
            self.shows(canal, (lie, (0,), stands), (lie, (0,), (0,) * 10), "red")
        # Two rings far from one another, and a boat that goes elsewhere at the same time.
        canal = (8, 1, (
            (0, 1, 0, 0), (1, 2, 0, 0), (2, 2, 0, 0), (0, 3, 0, 0), (3, 4, 0, 0), (4, 5, 0, 0), (5, 4, 0, 0), (0, 6, 0, 0)))
        one, other = (2,) + (0,) * 7, (1,) + (0,) * 5 + (1, 0)
        self.shows(canal, (one, (0,), (0,) * 8), (other, (0,), (0, 0, 1, 0, 0, 1, 1, 1)), "red")

    def test_rings_that_boats_have_left(self):
        # The only boat goes away from the ring first, if nobody takes care.
        canal = (3, 1, ((0, 2, 0, 0), (0, 1, 0, 0), (1, 0, 0, 0)))
        one, other = ((1, 0, 0), (0,), (0, 0, 0)), ((0, 0, 1), (0,), (1, 1, 1))
        self.shows(canal, one, other, "red")
        self.shows(canal, other, one, "red")

    def test_at_the_bounds(self):
        chance = random.Random(425)
        for canal in [FULL, ring_of(8)] + [large_canal(chance) for _ in range(30)]:
            for lie in ((MOST,) * 8, (MOST,) + (0,) * 7, (0, MOST, 1) + (0,) * 5, (0,) * 7 + (1,)):
                stands = some_standing(chance, canal)[2]
                one = lie, (0,) * canal[1], stands
                row, times = some_row(chance, canal, one, 100)
                self.shows(canal, one, times[-1], "red")
                turned = exchanged(canal)
                self.shows(turned, exchanged_standing(times[-1]), exchanged_standing(one), "blue")


class Woken(Case):
    def test_the_least_of_the_shortest_rows(self):
        seen = 0
        for canal, water, standings in tiny(430, 40):
            for one in random.Random(431).sample(standings, min(len(standings), 40)):
                rows = rows_to_all(canal, one, 10 ** 6)
                for basin in range(len(boats_of(one, water))):
                    there = [(len(row), row) for now, row in rows.items() if boats_of(now, water)[basin]]
                    wanted = min(there)[1] if there else None
                    seen += wanted is not None and len(wanted) > 1
                    self.same(woken(canal, one, water, basin), wanted)
        self.assertGreater(seen, 60)

    def test_the_least_of_the_shortest_rows_of_larger_canals(self):
        chance = random.Random(433)
        for _ in range(60):
            canal = 6, 1, tuple((chance.randrange(6), chance.randrange(6), 0, 0) for _ in range(8))
            lie = [0] * 6
            for _ in range(chance.randint(1, 2)):
                lie[chance.randrange(6)] += 1
            one = tuple(lie), (0,), some_standing(chance, canal)[2]
            rows = rows_to_all(canal, one, 10 ** 6)
            for basin in range(6):
                there = [(len(row), row) for now, row in rows.items() if now[0][basin]]
                with self.subTest((canal, one, basin)):
                    self.same(woken(canal, one, "red", basin), min(there)[1] if there else None)

    def test_none_where_it_is_asleep_nothing_where_a_boat_lies(self):
        for canal, water, standing in some_alone(432):
            sleeping = asleep_in(canal, standing, water)
            for basin, boats in enumerate(boats_of(standing, water)):
                for row in every_way(woken, canal, [standing], water, basin):
                    with self.subTest((canal, water, standing, basin)):
                        if basin in sleeping:
                            self.assertIs(row, None)
                        elif boats:
                            self.same(row, [])
                        else:
                            self.assertTrue(row)
                            self.assertGreater(boats_of(behind(canal, standing, row), water)[basin], 0)

    def test_by_hand(self):
        # From 0 to 3 by 1 or by 2: lock by lock the lesser row.
        canal = (4, 1, ((2, 3, 0, 0), (0, 1, 0, 0), (0, 2, 0, 0), (1, 3, 0, 0), (0, 2, 0, 0)))
        one = (MOST, 0, 0, 0), (0,), (0,) * 5
        self.same(woken(canal, one, "red", 3), [(1, "red"), (3, "red")])
        self.same(woken(canal, one, "red", 2), [(2, "red")])
        self.same(woken(canal, one, "red", 0), [])
        self.same(woken(canal, (one[0], (0,), (0, 1, 0, 0, 0)), "red", 3), [(2, "red"), (0, "red")])
        self.same(woken(canal, (one[0], (0,), (0, 1, 1, 0, 0)), "red", 3), [(4, "red"), (0, "red")])
        self.same(woken(canal, (one[0], (0,), (0, 1, 0, 0, 0)), "red", 1), None)
        # Shorter goes ahead of less, whichever boat it is.
        self.same(woken(canal, ((1, 0, 1, 0), (0,), (0,) * 5), "red", 3), [(0, "red")])
        self.same(woken(canal, ((0, 1, 1, 0), (0,), (0,) * 5), "red", 3), [(0, "red")])
        self.same(woken(canal, ((0, 1, 0, 0), (0,), (0,) * 5), "red", 3), [(3, "red")])
        self.same(woken(exchanged(canal), exchanged_standing(one), "blue", 3), [(1, "blue"), (3, "blue")])
        high = tuple(1 for _ in range(5))
        self.same(woken(canal, ((0, 0, 0, 1), (0,), high), "red", 0), [(0, "red"), (2, "red")])

    def test_the_longest_roads(self):
        road = (8, 1, tuple((at, at + 1, 0, 0) for at in range(7)))
        one = (1,) + (0,) * 7, (0,), (0,) * 7
        self.same(woken(road, one, "red", 7), [(lock, "red") for lock in range(7)])
        self.same(woken(ring_of(8), ((0, MOST) + (0,) * 6, (0, 0), (0,) * 8), "red", 0), [(lock, "red") for lock in range(1, 8)])


class OthersLie(Case):
    def test_the_first_basin_of_the_other_water_that_has_one(self):
        chance = random.Random(440)
        for canal, water, standing in some_alone(441, 5):
            place = 1 if water == "red" else 0
            basins = canal[place]
            for basin in {0, basins - 1, chance.randrange(basins)}:
                wrong = changed(standing, place, basin, 1)
                later = changed(wrong, place, basins - 1, MOST)
                for bad in (wrong, later, listed(wrong)):
                    self.refused(Others, "basin", basin, asleep, canal, bad, water)
                    self.refused(Others, "basin", basin, woken, canal, bad, water, 0)
                    self.refused(Others, "basin", basin, leads, canal, bad, standing, water)
                    self.refused(Others, "basin", basin, leads, canal, standing, bad, water)
                    self.refused(Others, "basin", basin, row_alone, canal, bad, standing, water)
                    self.refused(Others, "basin", basin, row_alone, canal, standing, bad, water)

    def test_of_one_then_of_other(self):
        none = (1, 0, 0), (0, 0, 0), (0, 0, 0)
        first, second = changed(none, 1, 2, 1), changed(none, 1, 0, 5)
        for call in (leads, row_alone):
            self.refused(Others, "basin", 2, call, RING, first, second, "red")
            self.refused(Others, "basin", 0, call, RING, second, first, "red")
            self.refused(Others, "basin", 0, call, RING, none, second, "red")
            self.refused(Others, "basin", 0, call, RING, none, first, "blue")
            # Ahead of whatever else is told.
            self.refused(Others, "basin", 2, call, RING, changed(none, 0, 0, 7), first, "red")

    def test_where_a_boat_lies_there_or_it_is_asleep(self):
        standing = (1, 0, 0), (0, 1, 0), (1, 0, 1)
        for basin in range(3):
            self.refused(Others, "basin", 1, woken, RING, standing, "red", basin)
            self.refused(Others, "basin", 0, woken, RING, standing, "blue", basin)
