import random
from math import gcd

from crosslocks.canals import exchanged
from crosslocks.measures import have_counts, lots, measures, scales
from tests.apart import (
    FOUR, SELVES, all_canals, are_heights, beside, changed, large_canal, measures_of, other_boats, rank, ring_of, rows_of,
    small_canals, solvable, some_ends, some_pair, weighs)
from tests.samples import BARE, RING, Case, listed, mixed, some_standing


class Scales(Case):
    def test_they_are_heights_by_the_measures(self):
        for canal in all_canals():
            told = scales(canal)
            with self.subTest((canal, told)):
                self.assertIs(type(told), list)
                for heights in told:
                    self.assertTrue(are_heights(canal, heights))
                self.same([heights[0] for heights in told], measures(canal))
                self.same(scales(listed(canal)), told)
                self.same(scales(mixed(canal)), told)

    def test_all_weigh_alike_just_where_there_are_counts(self):
        chance = random.Random(60)
        for canal in small_canals():
            told = scales(canal)
            one, other, reds, blues = some_ends(chance, canal, 12)
            for last in [other, *other_boats(other), *other_boats(one), some_standing(chance, canal)]:
                alike = all(weighs(canal, heights, one) == weighs(canal, heights, last) for heights in told)
                with self.subTest((canal, one, last)):
                    self.assertEqual(alike, solvable(canal, one, last))


class Measures(Case):
    def test_of_small_ones(self):
        for canal in small_canals():
            with self.subTest(canal):
                self.same(measures(canal), measures_of(canal))
                self.same(measures(listed(canal)), measures_of(canal))

    def test_each_a_part_of_the_next_those_that_are_0_last(self):
        chance = random.Random(61)
        for canal in all_canals() + [large_canal(chance) for _ in range(60)]:
            told = measures(canal)
            above = [measure for measure in told if measure != 0]
            with self.subTest((canal, told)):
                self.same(told, above + [0] * (canal[0] + canal[1] - rank(rows_of(canal))))
                self.assertTrue(all(measure >= 2 for measure in above))
                self.assertTrue(all(later % earlier == 0 for earlier, later in zip(above, above[1:])))

    def test_a_ring_around_a_basin(self):
        self.same(measures(ring_of(1)), [0, 0])
        for many in range(2, 9):
            with self.subTest(many):
                self.same(measures(ring_of(many)), [many, 0, 0])
                self.same(measures(exchanged(ring_of(many))), [many, 0, 0])

    def test_two_rings_beside_one_another(self):
        for one in range(1, 8):
            for other in range(1, 9 - one):
                common = gcd(one, other)
                wanted = [measure for measure in (common, one * other // common) if measure > 1] + [0] * 4
                with self.subTest((one, other)):
                    self.same(measures(beside(ring_of(one), ring_of(other))), wanted)
        self.same(measures(beside(ring_of(2), ring_of(4))), [2, 4, 0, 0, 0, 0])
        self.same(measures(beside(ring_of(2), ring_of(3))), [6, 0, 0, 0, 0])
        self.same(measures(beside(ring_of(6), ring_of(4))), [2, 12, 0, 0, 0, 0])
        self.same(measures(beside(ring_of(5), ring_of(5))), [5, 5, 0, 0, 0, 0])
        self.same(measures(beside(beside(ring_of(2), ring_of(2)), ring_of(4))), [2, 2, 4] + [0] * 6)

    def test_locks_that_lead_to_themselves(self):
        self.same(measures(SELVES), [0] * 5)
        self.same(measures((1, 1, ((0, 0, 0, 0),))), [0, 0])
        self.same(measures((8, 8, tuple((k % 8, k % 8, k % 8, k % 8) for k in range(10)))), [0] * 16)

    def test_without_locks(self):
        self.same(measures(BARE), [0, 0])
        self.same(measures((8, 8, ())), [0] * 16)

    def test_by_hand(self):
        self.same(measures(FOUR), [4, 4, 0, 0])
        self.same(measures(RING), [0] * 4)
        self.same(measures((2, 2, ((0, 1, 0, 1),))), [0, 0, 0])

    def test_exchanged_the_same(self):
        for canal in all_canals(30):
            with self.subTest(canal):
                self.same(measures(exchanged(canal)), measures(canal))


class HaveCounts(Case):
    def test_of_small_ones(self):
        chance = random.Random(62)
        for canal in small_canals():
            one, other, reds, blues = some_ends(chance, canal, 12)
            self.assertIs(have_counts(canal, one, other), True)
            for last in [*other_boats(other), some_standing(chance, canal)]:
                with self.subTest((canal, one, last)):
                    self.assertIs(have_counts(canal, one, last), solvable(canal, one, last))

    def test_at_the_bounds(self):
        chance = random.Random(63)
        for canal in [large_canal(chance) for _ in range(20)]:
            one, other, numbers = some_pair(chance, canal)
            self.assertIs(have_counts(canal, one, other), True)
            self.assertIs(have_counts(canal, other, one), True)
            self.assertIs(have_counts(listed(canal), listed(one), mixed(other)), True)
            self.assertIs(have_counts(canal, one, changed(other, 0, 7, 1)), False)
            self.assertIs(have_counts(canal, changed(one, 1, 7, 1), other), False)


class Lots(Case):
    def wanted(self, canal, standings):
        """Each put to the first lot whose first one it has counts of."""
        told = []
        for place, standing in enumerate(standings):
            for lot in told:
                if solvable(canal, standings[lot[0]], standing):
                    lot.append(place)
                    break
            else:
                told.append([place])
        return told

    def test_of_small_ones(self):
        chance = random.Random(64)
        for canal in small_canals(30):
            one, other, reds, blues = some_ends(chance, canal, 12)
            standings = [one, other, one, *other_boats(other), *other_boats(one), some_standing(chance, canal)]
            standings = chance.sample(standings, min(len(standings), 12))
            wanted = self.wanted(canal, standings)
            with self.subTest((canal, standings)):
                self.same(lots(canal, standings), wanted)
                self.same(lots(canal, tuple(standings)), wanted)
                self.same(lots(listed(canal), listed(standings)), wanted)
                self.same(lots(mixed(canal), mixed(standings)), wanted)

    def test_of_none_and_one(self):
        for canal in (BARE, RING, FOUR):
            self.same(lots(canal, []), [])
            self.same(lots(canal, ()), [])
            self.same(lots(canal, [((0,) * canal[0], (0,) * canal[1], (0,) * len(canal[2]))]), [[0]])

    def test_by_hand(self):
        def boats(*reds):
            return reds, (0, 0), (0, 0, 0)
        standings = [
            boats(0, 1, 0), boats(0, 0, 1), boats(0, 1, 0), boats(1, 0, 0), boats(0, 0, 2), boats(0, 0, 1), boats(1, 1, 0)]
        self.same(lots(ring_of(3), standings), [[0, 2], [1, 5], [3], [4, 6]])
        self.same(lots(ring_of(3), standings[::-1]), [[0, 2], [1, 5], [3], [4, 6]])
        self.same(lots((3, 2, ()), [standing[:2] + ((),) for standing in standings]), [[0, 2], [1, 5], [3], [4], [6]])

    def test_each_place_in_just_one(self):
        chance = random.Random(65)
        for canal in all_canals(30):
            standings = [some_standing(chance, canal, 1) for _ in range(20)]
            told = lots(canal, standings)
            with self.subTest((canal, told)):
                self.assertEqual(sorted(place for lot in told for place in lot), list(range(20)))
                self.assertEqual([lot[0] for lot in told], sorted(lot[0] for lot in told))
                self.assertTrue(all(lot == sorted(lot) for lot in told))
                for lot in told:
                    for place in lot[1:]:
                        self.assertIs(have_counts(canal, standings[lot[0]], standings[place]), True)
                for one in told:
                    for other in told:
                        self.assertIs(have_counts(canal, standings[one[0]], standings[other[-1]]), one == other)

    def test_ten_to_the_twelve_boats(self):
        chance = random.Random(66)
        for canal in [large_canal(chance) for _ in range(10)]:
            one, other, numbers = some_pair(chance, canal)
            standings = [one, changed(one, 0, 0, 1), other, changed(other, 0, 0, 1), changed(other, 1, 0, 1)]
            self.same(lots(canal, standings), [[0, 2], [1, 3], [4]])
