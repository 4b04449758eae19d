import random

from crosslocks.counts import counts
from crosslocks.errors import TooMany
from crosslocks.goings import gone_all, may_go
from crosslocks.small import far, is_stuck, lot_of, scarce, shows_lot, way
from tests.apart import (
    BESIDE, FOUR, TWICE, all_canals, changed, fits, large_canal, other_boats, ring_of, small_canals, solvable, variants)
from tests.samples import (
    BARE, DEEP, DEEPEST, FULL, LOOPS, ODD, RING, Case, exact, listed, many_standings, mixed, some_standing, tupled)
from tests.through import after, all_stands, behind, goings_of, rows_to_all, spread

ONE_LOCK = (2, 2, ((0, 1, 0, 1),))
# It comes to just 400 standings, and to one more with another blue boat.
JUST = (200, 0), (0, 199), (0,)
MORE = (200, 0), (0, 200), (0,)
# Ten locks side by side: each stands low or high, so there are more than a thousand.
TEN = (2, 2, ((0, 1, 0, 1),) * 10)
RICH = (10 ** 12,) * 8, (10 ** 12,) * 8, (0, 1) * 5


def few(seed, many=20, boats=2, most=400):
    """Canals and standings with the least of the shortest rows to all that these come to."""
    chance = random.Random(seed)
    for canal in small_canals(many) + [RING, LOOPS, BARE, ring_of(5)]:
        for _ in range(3):
            standing = some_standing(chance, canal, boats)
            rows = rows_to_all(canal, standing, most)
            if rows is not None:
                yield canal, standing, rows


def every_way(call, *handed):
    return [call(*handed), call(*map(listed, handed)), call(*map(mixed, handed))]


class TooManyAhead(Case):
    def too_many(self, call, *handed):
        for way_handed in (handed, tuple(map(listed, handed))):
            self.refused(TooMany, "many", 400, call, *way_handed)


class LotOf(TooManyAhead):
    def test_all_that_it_comes_to(self):
        seen = 0
        for canal, standing, rows in few(300):
            with self.subTest((canal, standing)):
                for told in every_way(lot_of, canal, standing):
                    self.same(told, sorted(rows))
                seen += len(rows) > 10
        self.assertGreater(seen, 30)

    def test_the_same_of_each_of_them(self):
        for canal, standing, rows in few(301, 5):
            for other in list(rows)[:5]:
                self.same(lot_of(canal, other), lot_of(canal, standing))

    def test_by_hand(self):
        low, red, blue = ((1, 0), (1, 0), (0,)), ((0, 1), (1, 0), (1,)), ((1, 0), (0, 1), (1,))
        self.same(lot_of(ONE_LOCK, low), [red, blue, low])
        self.same(lot_of(ONE_LOCK, ((1, 0), (0, 0), (0,))), [((0, 1), (0, 0), (1,)), ((1, 0), (0, 0), (0,))])
        self.same(
            lot_of(ONE_LOCK, ((1, 0), (0, 1), (0,))),
            [((0, 1), (0, 1), (1,)), ((0, 1), (1, 0), (0,)), ((1, 0), (0, 1), (0,))])

    def test_of_one_alone(self):
        self.same(lot_of(BARE, ((5,), (0,), ())), [((5,), (0,), ())])
        self.same(lot_of(RING, ((0, 0, 0), (0, 0, 0), (0, 1, 0))), [((0, 0, 0), (0, 0, 0), (0, 1, 0))])
        self.same(lot_of(ONE_LOCK, ((0, 10 ** 12), (0, 10 ** 12), (0,))), [((0, 10 ** 12), (0, 10 ** 12), (0,))])

    def test_just_four_hundred_and_one_more(self):
        told = lot_of(ONE_LOCK, JUST)
        self.same(len(told), 400)
        self.same(told, sorted(rows_to_all(ONE_LOCK, JUST)))
        self.same(len(rows_to_all(ONE_LOCK, MORE, 1000)), 401)
        self.too_many(lot_of, ONE_LOCK, MORE)

    def test_too_many(self):
        for canal, standing in (FULL, RICH), (TEN, ((10, 0), (0, 0), (0,) * 10)), (large_canal(random.Random(302)), RICH):
            self.too_many(lot_of, canal, standing)
        self.too_many(lot_of, ONE_LOCK, ((10 ** 12, 10 ** 12), (10 ** 12, 10 ** 12), (0,)))

    def test_boats_that_nobody_goes_through(self):
        most = 10 ** 12
        self.same(lot_of(ONE_LOCK, ((most, 0), (0, 0), (0,))), [((most - 1, 1), (0, 0), (1,)), ((most, 0), (0, 0), (0,))])
        alone = (8, 8, ((0, 1, 0, 0), (2, 3, 0, 0), (4, 4, 0, 0)))
        told = lot_of(alone, ((most,) * 8, (0,) + (most,) * 7, (0, 0, 0)))
        self.same(len(told), 8)
        self.same(told[-1], ((most,) * 8, (0,) + (most,) * 7, (0, 0, 1)))


class ShowsLot(Case):
    def test_of_the_list_and_of_nothing_else(self):
        for canal, standing, rows in few(310, 3, 1, 6):
            lot = sorted(rows)
            for told in every_way(lambda canal, standing: shows_lot(canal, standing, sorted(rows)), canal, standing):
                self.assertIs(told, True)
            for thing in variants(lot):
                with self.subTest((canal, standing, thing)):
                    self.assertIs(shows_lot(canal, standing, thing), exact(thing) == exact(lot))

    def test_of_things_of_all_kinds(self):
        standing = (1, 0, 0), (0, 0, 0), (0, 0, 0)
        for thing in ODD + DEEP + DEEPEST:
            with self.subTest(thing):
                for canal, there in (RING, standing), (FULL, RICH), (BARE, ((0,), (0,), ())):
                    self.assertIs(shows_lot(canal, there, thing), False)
                    self.assertIs(shows_lot(canal, there, [thing]), False)
                    self.assertIs(shows_lot(canal, there, [there, thing]), False)
        self.assertIs(shows_lot(BARE, ((1,), (1,), ()), [((1,), (1,), ())]), True)
        self.assertIs(shows_lot(BARE, ((1,), (1,), ()), [((True,), (1,), ())]), False)
        self.assertIs(shows_lot(BARE, ((1,), (1,), ()), [((1,), (2,), ())]), False)
        self.assertIs(shows_lot(BARE, ((1,), (1,), ()), (((1,), (1,), ()),)), False)
        self.assertIs(shows_lot(BARE, ((1,), (1,), ()), [[(1,), (1,), ()]]), False)

    def test_a_list_that_lacks_one_or_has_one_twice_or_one_more(self):
        for canal, standing, rows in few(311, 10):
            lot = sorted(rows)
            at = len(lot) // 2
            self.assertIs(shows_lot(canal, standing, lot[:at] + lot[at + 1:]), False)
            self.assertIs(shows_lot(canal, standing, lot[:at] + lot[at:at + 1] + lot[at:]), False)
            if len(lot) > 1:
                self.assertIs(shows_lot(canal, standing, lot[::-1]), False)
            self.assertIs(shows_lot(canal, standing, sorted(lot + [changed(lot[at], 0, 0, 1)])), False)
            self.assertIs(shows_lot(canal, changed(standing, 0, 0, 1), lot), False)

    def test_longer_than_four_hundred(self):
        for canal, standing in (ONE_LOCK, MORE), (ONE_LOCK, ((1000, 0), (0, 1000), (0,))), (TEN, ((1, 1), (0, 0), (0, 1) * 5)):
            lot = sorted(rows_to_all(canal, standing, 5000))
            self.assertGreater(len(lot), 400)
            self.assertIs(shows_lot(canal, standing, lot), True)
            self.assertIs(shows_lot(listed(canal), listed(standing), lot), True)
            self.assertIs(shows_lot(canal, standing, lot[:-1]), False)
            self.assertIs(shows_lot(canal, standing, lot[:400]), False)

    def test_gone_through_no_further_than_the_thing_is_long(self):
        for many in (0, 1, 2, 401):
            self.assertIs(shows_lot(FULL, RICH, [RICH] * many), False)
        near = sorted([RICH] + [after(FULL, RICH, going) for going in goings_of(FULL)])
        self.assertIs(shows_lot(FULL, RICH, near), False)
        # So long a thing that what isn't a standing is seen ahead of all.
        self.assertIs(shows_lot(FULL, RICH, [None] * 10 ** 5), False)


class FarAndWay(TooManyAhead):
    def test_the_least_of_the_shortest_rows(self):
        for canal, standing, rows in few(320, 10, 2, 150):
            for other, row in rows.items():
                with self.subTest((canal, standing, other)):
                    self.same(way(canal, standing, other), row)
                    self.same(far(canal, standing, other), len(row))
            for told in every_way(way, canal, standing, other):
                self.same(told, row)
            for told in every_way(far, canal, standing, other):
                self.same(told, len(row))

    def test_it_leads_there(self):
        for canal, standing, rows in few(321, 5):
            for other in list(rows)[-5:]:
                row = way(canal, standing, other)
                self.same(gone_all(canal, standing, row), other)
                self.same(behind(canal, other, row[::-1]), standing)
                self.same(far(canal, other, standing), len(row))

    def test_to_itself(self):
        for canal, standing, rows in few(322, 5):
            self.same(way(canal, standing, standing), [])
            self.same(far(canal, standing, standing), 0)
            self.same(way(canal, standing, listed(standing)), [])

    def test_none_where_none_leads_there(self):
        seen = 0
        for canal, standing, rows in few(323, 5, 2, 60):
            for other in other_boats(standing):
                if other not in rows:
                    seen += 1
                    for told in every_way(way, canal, standing, other) + every_way(far, canal, standing, other):
                        self.assertIs(told, None)
        self.assertGreater(seen, 100)

    def test_blue_ahead_of_red_and_lock_by_lock(self):
        both = (1, 1), (1, 1), (0,)
        self.same(way((1, 1, ((0, 0, 0, 0),)), ((1,), (1,), (0,)), ((1,), (1,), (1,))), [(0, "blue")])
        self.same(way((1, 1, ((0, 0, 0, 0),)), ((1,), (0,), (0,)), ((1,), (0,), (1,))), [(0, "red")])
        # Both rows lead there, the lesser begins by the lesser lock.
        self.same(way((2, 2, ((0, 0, 0, 0), (1, 1, 1, 1))), (*both[:2], (0, 0)), (*both[:2], (1, 1))), [(0, "blue"), (1, "blue")])
        beside = (2, 1, ((0, 1, 0, 0), (0, 1, 0, 0)))
        self.same(way(beside, ((2, 0), (0,), (0, 0)), ((0, 2), (0,), (1, 1))), [(0, "red"), (1, "red")])
        # A blue going is less, though a red one would do by the same lock as early.
        canal = (2, 1, ((0, 0, 0, 0), (0, 1, 0, 0)))
        self.same(way(canal, ((1, 0), (1,), (0, 0)), ((0, 1), (1,), (1, 1))), [(0, "blue"), (1, "red")])

    def test_too_many_ahead_of_whatever_else_is_told(self):
        for canal, standing in (ONE_LOCK, MORE), (FULL, RICH), (TEN, ((10, 0), (0, 0), (0,) * 10)):
            nearby = after(canal, standing, may_go(canal, standing)[0])
            for other in (standing, nearby, changed(standing, 0, 0, 1), ((0,) * canal[0], (0,) * canal[1], standing[2])):
                for call in (far, way, scarce):
                    self.too_many(call, canal, standing, other)

    def test_only_what_one_comes_to_counts(self):
        # The other one comes to more than 400, but one to a few alone.
        few_boats = (1, 0), (0, 0), (0,)
        for call, told in (far, None), (way, None), (scarce, False):
            self.assertIs(call(ONE_LOCK, few_boats, MORE), told)
            self.too_many(call, ONE_LOCK, MORE, few_boats)

    def test_of_just_four_hundred(self):
        last = (0, 200), (199, 0), (1,)
        self.same(far(ONE_LOCK, JUST, last), 399)
        self.same(way(ONE_LOCK, JUST, last), ([(0, "red"), (0, "blue")] * 200)[:399])
        self.assertIs(far(ONE_LOCK, JUST, MORE), None)


class IsStuck(Case):
    def test_just_where_nothing_may_go(self):
        seen = {True: 0, False: 0}
        for canal, standing in many_standings(60, 1) + many_standings(60, 0):
            stuck = all(after(canal, standing, going) is None for going in goings_of(canal))
            seen[stuck] += 1
            for told in every_way(is_stuck, canal, standing):
                self.assertIs(told, stuck)
        self.assertGreater(min(seen.values()), 20)

    def test_by_hand(self):
        self.assertIs(is_stuck(BARE, ((5,), (5,), ())), True)
        self.assertIs(is_stuck(ONE_LOCK, ((0, 10 ** 12), (0, 10 ** 12), (0,))), True)
        self.assertIs(is_stuck(ONE_LOCK, ((0, 10 ** 12), (0, 0), (1,))), False)
        self.assertIs(is_stuck(ONE_LOCK, ((0, 0), (1, 0), (0,))), False)
        self.assertIs(is_stuck(FULL, RICH), False)
        self.assertIs(is_stuck(RING, ((0, 0, 0), (0, 0, 0), (0, 1, 0))), True)


class Scarce(Case):
    def test_counts_and_yet_not_come_to(self):
        seen = {True: 0, False: 0}
        for canal, standing, rows in few(330, 12, 1, 60):
            boats = sum(standing[0]), sum(standing[1])
            if len(canal[2]) > 4 or max(boats) > 3:
                continue
            some_stands = all_stands(len(canal[2]))[::5]
            for reds in spread(boats[0], canal[0]):
                for blues in spread(boats[1], canal[1]):
                    for stands in some_stands:
                        other = reds, blues, stands
                        short = other not in rows and solvable(canal, standing, other)
                        seen[short] += 1
                        with self.subTest((canal, standing, other)):
                            self.assertIs(scarce(canal, standing, other), short)
                            self.assertIs(scarce(listed(canal), listed(standing), mixed(other)), short)
        self.assertGreater(min(seen.values()), 50)

    def test_by_hand(self):
        # A ring of reds that nobody is there to go around.
        around = ring_of(3)
        none, turned = ((0, 0, 0), (0, 3), (0, 0, 0)), ((0, 0, 0), (3, 0), (0, 0, 0))
        self.assertTrue(fits(around, none, turned, [1, 1, 1]))
        self.assertIs(scarce(around, none, turned), True)
        self.assertIs(scarce(around, none, none), False)
        self.assertIs(scarce(around, ((1, 0, 0), (0, 3), (0, 0, 0)), ((1, 0, 0), (3, 0), (0, 0, 0))), False)
        self.assertIs(scarce(around, ((1, 0, 0), (0, 0), (0, 0, 0)), ((0, 1, 0), (0, 0), (0, 0, 0))), False)
        self.assertIs(scarce(BESIDE, ((0, 0), (0, 0), (0, 0, 0)), ((0, 0), (0, 0), (1, 0, 1))), True)
        self.assertIs(scarce(BARE, ((1,), (1,), ()), ((2,), (1,), ())), False)

    def test_boats_that_nobody_goes_through(self):
        most = 10 ** 12
        stuck = (0, most), (0, most), (0,)
        self.assertIs(scarce(ONE_LOCK, stuck, ((most, 0), (0, most), (0,))), False)
        self.assertIs(scarce(ONE_LOCK, stuck, ((most, 0), (most, 0), (0,))), False)
        self.assertIs(counts(ONE_LOCK, stuck, ((1, most - 1), (0, most), (0,))), None)
        apart = (2, 2, ((0, 1, 0, 1), (0, 1, 1, 0)))
        self.assertIs(scarce(apart, ((0, most), (0, 0), (0, 0)), ((0, most), (0, 0), (0, 0))), False)
        canal, one = (2, 2, ((0, 0, 0, 0),)), ((0, most), (0, most), (0,))
        self.assertIs(scarce(canal, one, ((0, most), (0, most), (1,))), True)

    def test_canals_of_all_sizes(self):
        chance = random.Random(332)
        for canal in all_canals(20) + [TWICE, FOUR]:
            none = (0,) * canal[0], (0,) * canal[1], some_standing(chance, canal)[2]
            self.assertIs(scarce(canal, none, none), False)
            turned = tupled([none[0], none[1], [1 - stand for stand in none[2]]])
            wanted = bool(canal[2]) and counts(canal, none, turned) is not None
            self.assertIs(scarce(canal, none, turned), wanted)
