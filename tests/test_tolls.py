import random
from math import gcd

from crosslocks.counts import counts, rounds
from crosslocks.errors import NoBoat, NoCounts
from crosslocks.heights import bar
from crosslocks.measures import scales
from crosslocks.tolls import paid, paid_by, step
from tests.apart import (
    BESIDE, FOUR, KINDS, TWICE, all_canals, changed, large_canal, ring_of, small_canals, some_ends, some_pair)
from tests.samples import FULL, LOOPS, RING, Case, listed, mixed, some_row, some_standing, tupled
from tests.through import behind, is_multiple, pays, some_tolls, step_of

ONE_LOCK = (2, 2, ((0, 1, 0, 1),))


def some_rows(seed, many=40, boats=3):
    """Canals, tolls, and rows with what stands at each time."""
    chance = random.Random(seed)
    for canal in all_canals(20):
        standing = some_standing(chance, canal, boats)
        row, times = some_row(chance, canal, standing, chance.randint(0, many))
        yield canal, some_tolls(chance, canal), row, times


class PaidBy(Case):
    def test_reds_and_blues_forth_and_back(self):
        tolls = [(5, 700)]
        low, high = ((1, 1), (1, 1), (0,)), ((1, 1), (1, 1), (1,))
        self.same(paid_by(ONE_LOCK, tolls, low, [(0, "red")]), 5)
        self.same(paid_by(ONE_LOCK, tolls, low, [(0, "blue")]), 700)
        self.same(paid_by(ONE_LOCK, tolls, high, [(0, "red")]), -5)
        self.same(paid_by(ONE_LOCK, tolls, high, [(0, "blue")]), -700)
        self.same(paid_by(ONE_LOCK, tolls, low, [(0, "red"), (0, "blue")]), 5 - 700)
        self.same(paid_by(ONE_LOCK, tolls, low, [(0, "blue"), (0, "red")]), 700 - 5)
        self.same(paid_by(ONE_LOCK, tolls, ((1, 0), (0, 2), (1,)), [(0, "blue"), (0, "red"), (0, "blue")]), 5 - 2 * 700)

    def test_going_by_going(self):
        for canal, tolls, row, times in some_rows(100):
            with self.subTest((canal, tolls, times[0], row)):
                self.same(paid_by(canal, tolls, times[0], row), pays(canal, tolls, times[0], row))
                self.same(paid_by(listed(canal), listed(tolls), listed(times[0]), listed(row)), pays(canal, tolls, times[0], row))
                self.same(paid_by(mixed(canal), tupled(tolls), mixed(times[0]), tupled(row)), pays(canal, tolls, times[0], row))

    def test_the_bare_row(self):
        for canal, tolls, row, times in some_rows(101):
            self.same(paid_by(canal, tolls, times[0], []), 0)
        self.same(paid_by((1, 1, ()), [], ((3,), (4,), ()), []), 0)

    def test_a_row_cut_anywhere(self):
        for canal, tolls, row, times in some_rows(102, 12):
            whole = paid_by(canal, tolls, times[0], row)
            for cut in range(len(row) + 1):
                with self.subTest((canal, tolls, times[0], row, cut)):
                    first = paid_by(canal, tolls, times[0], row[:cut])
                    self.assertEqual(first + paid_by(canal, tolls, times[cut], row[cut:]), whole)

    def test_a_row_gone_back(self):
        for canal, tolls, row, times in some_rows(103):
            with self.subTest((canal, tolls, times[0], row)):
                back = paid_by(canal, tolls, times[-1], row[::-1])
                self.assertEqual(back, -paid_by(canal, tolls, times[0], row))
                self.same(paid_by(canal, tolls, times[0], row + row[::-1]), 0)

    def test_no_boat_of_the_first_that_has_none(self):
        seen = 0
        for canal, tolls, row, times in some_rows(104, 10, 1):
            goings = [(lock, water) for lock in range(len(canal[2])) for water in ("red", "blue")]
            for going in goings:
                if behind(canal, times[-1], [going]) is None:
                    seen += 1
                    for handed in (going, list(going)):
                        self.refused(NoBoat, "going", going, paid_by, canal, tolls, times[0], row + [handed] + goings)
        self.assertGreater(seen, 100)

    def test_rows_of_four_hundred_and_tolls_to_ten_to_the_twelve(self):
        most = 10 ** 12
        self.same(paid_by(ONE_LOCK, [(most, -most)], ((400, 0), (0, 400), (0,)), [(0, "red"), (0, "blue")] * 200), 400 * most)
        self.same(paid_by(ONE_LOCK, [(-most, most)], ((most, 0), (0, most), (0,)), [(0, "red"), (0, "blue")] * 200), -400 * most)
        chance = random.Random(105)
        for canal in (FULL, large_canal(chance)):
            standing = (most,) * 8, (most,) * 8, (0, 1) * 5
            row, times = some_row(chance, canal, standing, 400)
            tolls = some_tolls(chance, canal, most)
            self.same(len(row), 400)
            self.same(paid_by(canal, tolls, standing, row), pays(canal, tolls, standing, row))


class Step(Case):
    def test_of_small_ones(self):
        chance = random.Random(110)
        for canal in small_canals():
            for most in (1, 4, 30):
                tolls = some_tolls(chance, canal, most)
                with self.subTest((canal, tolls)):
                    self.same(step(canal, tolls), step_of(canal, tolls))
                    self.same(step(listed(canal), listed(tolls)), step_of(canal, tolls))
                    self.same(step(mixed(canal), tupled(tolls)), step_of(canal, tolls))

    def test_by_hand(self):
        self.same(step(TWICE, [(1, 0), (0, 0), (0, 0), (0, 0)]), 2)
        self.same(step(TWICE, [(0, 1), (0, 0), (0, 0), (0, 0)]), 2)
        self.same(step(TWICE, [(0, 0), (3, 0), (0, 0), (0, 0)]), 3)
        self.same(step(TWICE, [(1, 0), (1, 3), (0, 0), (0, 0)]), 0)
        self.same(step(TWICE, [(9, 1), (1, 3), (0, 4), (7, 7)]), 10)
        self.same(step(BESIDE, [(6, 0), (0, 0), (15, 0)]), 3)
        self.same(step(BESIDE, [(6, 0), (0, 0), (-6, 0)]), 6)
        self.same(step(RING, [(1, 0), (1, 0), (1, 0)]), 3)

    def test_nothing_where_no_round_pays_anything(self):
        chance = random.Random(111)
        for canal in [FOUR, *map(ring_of, range(1, 9)), (1, 1, ()), (3, 2, ())]:
            self.same(step(canal, some_tolls(chance, canal)), 0)
        for canal in all_canals(20):
            self.same(step(canal, [(0, 0)] * len(canal[2])), 0)
            self.same(step(canal, [(toll, toll) for toll, other in some_tolls(chance, canal)]), 0)
        self.same(step(LOOPS, [(0, 0), (0, 0), (5, 3)]), 0)

    def test_so_many_times_the_tolls(self):
        chance = random.Random(112)
        for canal in all_canals(20):
            tolls = some_tolls(chance, canal)
            for many in (2, 5, 10 ** 11, -1, -3, 0):
                more = [(many * red, many * blue) for red, blue in tolls]
                with self.subTest((canal, tolls, many)):
                    self.same(step(canal, more), abs(many) * step(canal, tolls))

    def test_as_much_more_for_both_waters_of_a_lock(self):
        chance = random.Random(113)
        for canal in all_canals(20):
            tolls = some_tolls(chance, canal)
            more = [(red + (many := chance.randint(-9, 9)), blue + many) for red, blue in tolls]
            self.same(step(canal, more), step(canal, tolls))

    def test_with_climbs_put_to_the_reds(self):
        chance = random.Random(114)
        for canal in all_canals(20):
            tolls = some_tolls(chance, canal)
            for measure, reds, blues in scales(canal):
                red_climbs = [(red + reds[c] - reds[a], blue) for (red, blue), (a, c, x, y) in zip(tolls, canal[2])]
                blue_climbs = [(red + blues[y] - blues[x], blue) for (red, blue), (a, c, x, y) in zip(tolls, canal[2])]
                self.same(step(canal, red_climbs), step(canal, tolls))
                self.same(step(canal, blue_climbs), step(canal, tolls))
            heights = [chance.randint(-9, 9) for _ in range(canal[0])]
            more = [(red + heights[c] - heights[a], blue) for (red, blue), (a, c, x, y) in zip(tolls, canal[2])]
            self.same(step(canal, more), step(canal, tolls))

    def test_what_all_rounds_pay(self):
        chance = random.Random(115)
        for canal in all_canals(20) + [large_canal(chance) for _ in range(20)]:
            tolls = some_tolls(chance, canal, 10 ** 12)
            pay = [sum(number * (red - blue) for number, (red, blue) in zip(turn, tolls)) for turn in rounds(canal)]
            self.same(step(canal, tolls), gcd(*pay))


class Paid(Case):
    def told_of(self, canal, tolls, one, other, really):
        told = paid(canal, tolls, one, other)
        with self.subTest((canal, tolls, one, other, told)):
            self.same(told, (really % told[1] if told[1] else really, step(canal, tolls)))
            self.same(paid(listed(canal), listed(tolls), listed(one), mixed(other)), told)

    def test_what_a_row_really_paid(self):
        for canal, tolls, row, times in some_rows(120):
            self.told_of(canal, tolls, times[0], times[-1], pays(canal, tolls, times[0], row))

    def test_with_numbers_as_great_as_the_bounds_let(self):
        chance = random.Random(121)
        for canal in KINDS + all_canals(20) + [large_canal(chance) for _ in range(20)]:
            one, other, numbers = some_pair(chance, canal)
            tolls = some_tolls(chance, canal, 10 ** 12)
            really = sum(number * red for number, (red, blue) in zip(numbers, tolls))
            highs = [last - first for first, last in zip(one[2], other[2])]
            really += sum((high - number) * blue for high, number, (red, blue) in zip(highs, numbers, tolls))
            self.told_of(canal, tolls, one, other, really)

    def test_itself_where_there_is_no_step(self):
        canal = ring_of(3)
        one, other = ((1, 0, 2), (0, 4), (0, 0, 1)), ((0, 1, 2), (0, 4), (1, 0, 1))
        self.same(paid(canal, [(-7, 100), (20, 3), (4, 4)], one, other), (-7, 0))
        self.same(paid(canal, [(-7, 100), (20, 3), (4, 4)], other, one), (7, 0))
        self.same(paid(canal, [(7, 7), (7, 7), (7, 7)], one, other), (7, 0))
        blue = ((1, 0, 2), (1, 3), (0, 0, 0))
        self.same(paid(canal, [(-7, 100), (20, 3), (4, 90)], one, blue), (-90, 0))
        self.same(paid((1, 1, ()), [], ((5,), (5,), ()), ((5,), (5,), ())), (0, 0))

    def test_below_the_step(self):
        none = (3, 3, 3), (3, 3, 3), (0, 0, 0, 0)
        gone = (2, 4, 3), (3, 3, 3), (1, 0, 0, 0)
        tolls = [(5, 0), (0, 0), (0, 0), (0, 0)]
        self.same(paid(TWICE, tolls, none, none), (0, 10))
        self.same(paid(TWICE, tolls, none, gone), (5, 10))
        self.same(paid(TWICE, tolls, gone, none), (5, 10))
        self.same(paid(TWICE, [(3, 0), (4, 0), (0, 0), (0, 0)], none, gone), (3, 10))
        self.same(paid(TWICE, [(3, 0), (4, 0), (0, 0), (0, 0)], gone, none), (7, 10))

    def test_no_counts(self):
        chance = random.Random(122)
        for canal in all_canals(20):
            one, other, numbers = some_pair(chance, canal, 50)
            tolls = some_tolls(chance, canal)
            for first, last in (one, changed(other, 0, 0, 1)), (changed(one, 1, 0, 1), other):
                self.assertIs(counts(canal, first, last), None)
                self.assertIsNot(bar(canal, first, last), None)
                for make in (tupled, listed):
                    with self.assertRaises(NoCounts) as caught:
                        paid(make(canal), make(tolls), make(first), make(last))
                    self.assertIs(type(caught.exception), NoCounts)
        with self.assertRaises(NoCounts):
            paid(ring_of(3), [(0, 0)] * 3, ((1, 0, 0), (0, 0), (0, 0, 0)), ((0, 1, 0), (0, 0), (0, 0, 0)))

    def test_a_round_really_pays_more(self):
        chance = random.Random(123)
        for canal in KINDS:
            one, other, reds, blues = some_ends(chance, canal)
            tolls = some_tolls(chance, canal)
            what, by = paid(canal, tolls, one, other)
            highs = [last - first for first, last in zip(one[2], other[2])]
            for turn in [[0] * len(canal[2])] + rounds(canal):
                numbers = [number + more for number, more in zip(reds, turn)]
                pay = sum(n * red + (h - n) * blue for n, h, (red, blue) in zip(numbers, highs, tolls))
                self.assertTrue(is_multiple(pay - what, by))
