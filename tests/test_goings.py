import random

from crosslocks.canals import exchanged, exchanged_standing, is_standing
from crosslocks.errors import NoBoat
from crosslocks.goings import gone, gone_all, may_go, went
from tests.samples import (
    BARE, FULL, LOOPS, RING, WIDE, Case, after, exact, listed, many_standings, mixed, some_row, some_standing)


def all_goings(canal):
    return [(lock, water) for lock in range(len(canal[2])) for water in ("red", "blue")]


class MayGo(Case):
    def test_low_locks_by_the_basins_they_lead_from(self):
        self.same(may_go(RING, ((1, 0, 0), (0, 1, 0), (0, 0, 0))), [(0, "red"), (1, "blue")])
        self.same(may_go(RING, ((0, 0, 3), (0, 0, 2), (0, 0, 0))), [(2, "red"), (2, "blue")])

    def test_high_locks_by_the_basins_they_lead_to(self):
        self.same(may_go(RING, ((1, 0, 0), (0, 1, 0), (1, 1, 1))), [(0, "blue"), (2, "red")])
        self.same(may_go(RING, ((1, 0, 0), (0, 1, 0), (0, 1, 1))), [(0, "red"), (2, "red")])

    def test_lock_by_lock_red_ahead_of_blue(self):
        self.same(may_go(RING, ((1, 1, 1), (1, 1, 1), (0, 1, 0))), [
            (0, "red"), (0, "blue"), (1, "red"), (1, "blue"), (2, "red"), (2, "blue")])

    def test_locks_from_a_basin_to_itself(self):
        for stands in ((0, 0, 0), (1, 1, 0)):
            self.same(may_go(LOOPS, ((2, 0), (0,), stands)), [(0, "red"), (2, "red")])
        self.same(may_go(LOOPS, ((0, 1), (1,), (1, 0, 1))), [
            (0, "blue"), (1, "red"), (1, "blue"), (2, "red"), (2, "blue")])

    def test_no_boats_and_no_locks(self):
        self.same(may_go(RING, ((0, 0, 0), (0, 0, 0), (0, 1, 0))), [])
        self.same(may_go(BARE, ((4,), (4,), ())), [])

    def test_as_each_going_is_gone(self):
        for canal, standing in many_standings(boats=1):
            wanted = [going for going in all_goings(canal) if after(canal, standing, going) is not None]
            for make in (tuple, listed, mixed):
                with self.subTest((canal, standing)):
                    self.same(may_go(make(canal), make(standing)), wanted)


class Gone(Case):
    def test_forth_by_a_low_lock(self):
        standing = ((1, 5, 5), (5, 2, 5), (0, 0, 1))
        self.same(gone(RING, standing, (0, "red")), ((0, 6, 5), (5, 2, 5), (1, 0, 1)))
        self.same(gone(RING, standing, (1, "blue")), ((1, 5, 5), (5, 1, 6), (0, 1, 1)))

    def test_back_by_a_high_lock(self):
        standing = ((5, 1, 5), (5, 2, 5), (1, 1, 0))
        self.same(gone(RING, standing, (0, "red")), ((6, 0, 5), (5, 2, 5), (0, 1, 0)))
        self.same(gone(RING, standing, (0, "blue")), ((5, 1, 5), (6, 1, 5), (0, 1, 0)))

    def test_by_locks_that_lead_otherwise_in_each_water(self):
        standing = ((1, 1, 1, 1), (1, 1), (0, 1))
        self.same(gone(WIDE, standing, (0, "red")), ((0, 1, 2, 1), (1, 1), (1, 1)))
        self.same(gone(WIDE, standing, (0, "blue")), ((1, 1, 1, 1), (2, 0), (1, 1)))
        self.same(gone(WIDE, standing, (1, "red")), ((1, 1, 1, 1), (1, 1), (0, 0)))
        self.same(gone(WIDE, standing, (1, "blue")), ((1, 1, 1, 1), (2, 0), (0, 0)))

    def test_by_a_lock_from_a_basin_to_itself(self):
        self.same(gone(LOOPS, ((1, 0), (0,), (0, 0, 0)), (0, "red")), ((1, 0), (0,), (1, 0, 0)))
        self.same(gone(LOOPS, ((1, 0), (0,), (1, 0, 0)), (0, "red")), ((1, 0), (0,), (0, 0, 0)))
        self.same(gone(LOOPS, ((0, 0), (1,), (1, 0, 0)), (2, "blue")), ((0, 0), (1,), (1, 0, 1)))
        self.refused(NoBoat, "going", (1, "red"), gone, LOOPS, ((1, 0), (1,), (0, 0, 0)), (1, "red"))

    def test_ten_to_the_twelve_boats(self):
        standing = ((10 ** 12, 10 ** 12, 0), (0, 0, 10 ** 12), (0, 0, 1))
        self.same(gone(RING, standing, (0, "red")), ((10 ** 12 - 1, 10 ** 12 + 1, 0), (0, 0, 10 ** 12), (1, 0, 1)))

    def test_no_boat(self):
        standing = ((0, 1, 1), (1, 0, 1), (0, 1, 0))
        self.refused(NoBoat, "going", (0, "red"), gone, RING, standing, (0, "red"))
        self.refused(NoBoat, "going", (0, "red"), gone, RING, standing, [0, "red"])
        self.refused(NoBoat, "going", (0, "red"), gone, listed(RING), listed(standing), [0, "red"])
        self.refused(NoBoat, "going", (0, "blue"), gone, RING, ((1, 1, 1), (0, 9, 9), (0, 0, 0)), [0, "blue"])
        self.refused(NoBoat, "going", (0, "blue"), gone, RING, ((1, 1, 1), (9, 0, 9), (1, 0, 0)), (0, "blue"))

    def test_the_refusal_keeps_nothing_of_a_list(self):
        going = [0, "red"]
        with self.assertRaises(NoBoat) as caught:
            gone(RING, ((0, 0, 0), (0, 0, 0), (0, 0, 0)), going)
        going[0] = 2
        self.same(caught.exception.going, (0, "red"))

    def test_each_going_of_each_canal(self):
        for canal, standing in many_standings(boats=2):
            for going in all_goings(canal):
                wanted = after(canal, standing, going)
                for make in (tuple, listed, mixed):
                    handed = make(canal), make(standing), make(going)
                    with self.subTest(handed):
                        if wanted is None:
                            self.refused(NoBoat, "going", going, gone, *handed)
                        else:
                            self.same(gone(*handed), wanted)
                            self.assertIs(is_standing(canal, gone(*handed)), True)

    def test_the_same_going_again_leads_back(self):
        for canal, standing in many_standings(boats=1):
            for going in may_go(canal, standing):
                with self.subTest((canal, standing, going)):
                    self.same(gone(canal, gone(canal, standing, going), going), standing)

    def test_exchanged_the_other_water_goes(self):
        for canal, standing in many_standings(50, boats=1):
            for lock, water in may_go(canal, standing):
                other = {"red": "blue", "blue": "red"}[water]
                with self.subTest((canal, standing, lock, water)):
                    self.same(
                        gone(exchanged(canal), exchanged_standing(standing), (lock, other)),
                        exchanged_standing(gone(canal, standing, (lock, water))))


class GoneAll(Case):
    def test_the_bare_row(self):
        for canal, standing in many_standings(20):
            for row in ([], ()):
                with self.subTest((canal, standing)):
                    self.same(gone_all(canal, standing, row), standing)
                    self.same(gone_all(listed(canal), listed(standing), row), standing)

    def test_one_behind_the_other(self):
        standing = ((1, 0, 0), (0, 0, 0), (0, 0, 0))
        row = [(0, "red"), (1, "red"), (2, "red"), (2, "red"), (1, "red")]
        self.same(gone_all(RING, standing, row[:3]), ((1, 0, 0), (0, 0, 0), (1, 1, 1)))
        self.same(gone_all(RING, standing, row), ((0, 1, 0), (0, 0, 0), (1, 0, 0)))

    def test_rows_up_to_four_hundred(self):
        chance = random.Random(6)
        for canal, standing in many_standings(30) + [(FULL, some_standing(chance, FULL))]:
            row, times = some_row(chance, canal, standing, 400)
            for many in (1, 2, 7, len(row)):
                with self.subTest((canal, standing, many)):
                    self.same(gone_all(canal, standing, row[:many]), times[:many + 1][-1])
            self.same(gone_all(listed(canal), listed(standing), listed(row)), times[-1])
            self.same(gone_all(mixed(canal), mixed(standing), tuple(row)), times[-1])

    def test_the_row_the_other_way_about_leads_back(self):
        chance = random.Random(7)
        for canal, standing in many_standings(30):
            row, times = some_row(chance, canal, standing, 400)
            with self.subTest((canal, standing)):
                self.same(gone_all(canal, gone_all(canal, standing, row), row[::-1]), standing)

    def test_somewhat_more_than_four_hundred(self):
        row = [(0, "red"), (0, "blue")] * 230
        self.same(gone_all(LOOPS, ((1, 0), (1,), (0, 0, 0)), row), ((1, 0), (1,), (0, 0, 0)))

    def test_no_boat_of_the_first(self):
        standing = ((1, 0, 0), (0, 0, 0), (0, 0, 0))
        row = [(0, "red"), (1, "red"), (0, "blue"), (2, "blue"), (1, "blue")]
        self.refused(NoBoat, "going", (0, "blue"), gone_all, RING, standing, row)
        self.refused(NoBoat, "going", (0, "blue"), gone_all, RING, standing, listed(row))
        self.refused(NoBoat, "going", (1, "blue"), gone_all, RING, standing, [[1, "blue"]] + row)

    def test_what_has_a_boat_at_first_may_have_none_later(self):
        standing = ((1, 0), (0,), (0, 0, 0))
        self.same(may_go(LOOPS, standing), [(0, "red"), (2, "red")])
        self.refused(NoBoat, "going", (0, "red"), gone_all, LOOPS, standing, [(2, "red"), (0, "red"), (1, "blue")])

    def test_no_boat_at_any_place_of_a_row(self):
        chance = random.Random(8)
        for canal, standing in many_standings(30, boats=1):
            row, times = some_row(chance, canal, standing, 40)
            for many in range(len(row) + 1):
                for going in all_goings(canal):
                    if after(canal, times[many], going) is None:
                        with self.subTest((canal, standing, row[:many], going)):
                            self.refused(NoBoat, "going", going, gone_all, canal, standing, row[:many] + [going] + row[many:])
                            self.refused(NoBoat, "going", going, went, canal, standing, row[:many] + [going] + row[many:])
                        break


class Went(Case):
    def test_the_bare_row(self):
        for row in ([], ()):
            self.same(went(RING, ((0, 0, 0), (0, 0, 0), (0, 1, 0)), row), ([0, 0, 0], [0, 0, 0]))
            self.same(went(BARE, ((1,), (1,), ()), row), ([], []))

    def test_forth_less_back(self):
        standing = ((1, 1, 1), (1, 1, 1), (0, 1, 0))
        self.same(went(RING, standing, [(0, "red")]), ([1, 0, 0], [0, 0, 0]))
        self.same(went(RING, standing, [(1, "red")]), ([0, -1, 0], [0, 0, 0]))
        self.same(went(RING, standing, [(0, "blue")]), ([0, 0, 0], [1, 0, 0]))
        self.same(went(RING, standing, [(1, "blue")]), ([0, 0, 0], [0, -1, 0]))
        self.same(went(RING, standing, [(0, "red"), (0, "blue")]), ([1, 0, 0], [-1, 0, 0]))
        self.same(went(RING, standing, [(0, "red"), (0, "red")]), ([0, 0, 0], [0, 0, 0]))
        self.same(went(LOOPS, ((2, 0), (2,), (0, 0, 0)), [(0, "red"), (0, "blue")] * 200), ([200, 0, 0], [-200, 0, 0]))
        self.same(went(LOOPS, ((2, 0), (2,), (1, 0, 0)), [(0, "red"), (0, "blue")] * 9), ([-9, 0, 0], [9, 0, 0]))

    def test_no_boat_of_the_first(self):
        standing = ((1, 0, 0), (0, 0, 0), (0, 0, 0))
        row = [(0, "red"), (1, "red"), (0, "blue"), (2, "blue")]
        self.refused(NoBoat, "going", (0, "blue"), went, RING, standing, row)
        self.refused(NoBoat, "going", (0, "blue"), went, listed(RING), listed(standing), listed(row))

    def test_rows_up_to_four_hundred(self):
        chance = random.Random(9)
        for canal, standing in many_standings(30):
            row, times = some_row(chance, canal, standing, 400)
            wanted = ([0] * len(canal[2]), [0] * len(canal[2]))
            for (lock, water), now in zip(row, times):
                wanted[water == "blue"][lock] += -1 if now[2][lock] else 1
            with self.subTest((canal, standing)):
                self.same(went(canal, standing, row), wanted)
                self.same(went(listed(canal), listed(standing), listed(row)), wanted)
                self.same(went(mixed(canal), mixed(standing), tuple(row)), wanted)
                back = went(canal, times[-1], row[::-1])
                self.same(back, tuple([-many for many in part] for part in wanted))

    def test_it_tells_what_other_has_more(self):
        chance = random.Random(10)
        for canal, standing in many_standings(30):
            row, times = some_row(chance, canal, standing, 100)
            told = went(canal, standing, row)
            now = [list(part) for part in standing]
            for lock, (a, c, x, y) in enumerate(canal[2]):
                now[0][a] -= told[0][lock]
                now[0][c] += told[0][lock]
                now[1][x] -= told[1][lock]
                now[1][y] += told[1][lock]
                now[2][lock] += told[0][lock] + told[1][lock]
            with self.subTest((canal, standing)):
                self.assertEqual(exact([list(part) for part in gone_all(canal, standing, row)]), exact(now))
