"""Point [1] (a), (b), (c): over canals and rows of goings that are made up here."""

import random

from crosslocks.counts import almanac, counts, shows_counts, shows_round, sure
from crosslocks.heights import bar, shows_bar, weight
from crosslocks.measures import have_counts, lots, measures, scales
from crosslocks.tellers import known, round_by, stride
from tests.apart import (
    FOUR, KINDS, TWICE, all_canals, changed, goes_round, large_canal, moved, other_boats, ring_of, some_ends, some_pair)
from tests.samples import Case, some_standing


class FromTwoStandingsAlone(Case):
    """(a)"""

    def told_right(self, canal, one, other, reds, blues):
        told = almanac(canal, one, other)
        for lock in range(len(canal[2])):
            number, by = known(canal, lock, one, other)
            with self.subTest((canal, one, other, lock)):
                if lock in sure(canal):
                    self.same(told[lock], (reds[lock], blues[lock]))
                    self.same((number, by), (reds[lock], 0))
                else:
                    self.same(told[lock], None)
                    self.assertGreater(by, 0)
                    self.assertEqual((reds[lock] - number) % by, 0)

    def test_however_long_boats_went(self):
        chance = random.Random(80)
        for many in (0, 1, 2, 5, 40):
            for canal in KINDS + all_canals(6):
                self.told_right(canal, *some_ends(chance, canal, many))
        for canal in (TWICE, FOUR, ring_of(8), large_canal(chance), large_canal(chance)):
            self.told_right(canal, *some_ends(chance, canal, 1500))

    def test_a_round_shows_that_it_is_not_told_further(self):
        chance = random.Random(81)
        for canal in KINDS + all_canals(20):
            one, other, reds, blues = some_ends(chance, canal)
            for lock in range(len(canal[2])):
                if lock in sure(canal):
                    continue
                turn = round_by(canal, lock)
                with self.subTest((canal, lock, turn)):
                    self.assertTrue(goes_round(canal, turn))
                    self.assertIs(shows_round(canal, turn), True)
                    self.assertEqual(abs(turn[lock]), stride(canal, lock))
                    # Other numbers at that lock lead to the very same standing.
                    numbers = [here + step for here, step in zip(reds, turn)]
                    self.same(moved(canal, one, numbers, other[2]), other)
                    self.assertIs(shows_counts(canal, one, other, numbers), True)


class CountsOrABar(Case):
    """(b)"""

    def either(self, canal, one, other):
        numbers, heights = counts(canal, one, other), bar(canal, one, other)
        with self.subTest((canal, one, other, numbers, heights)):
            self.assertNotEqual(numbers is None, heights is None)
            self.assertIs(shows_counts(canal, one, other, numbers), numbers is not None)
            self.assertIs(shows_bar(canal, one, other, heights), heights is not None)
            self.assertIs(have_counts(canal, one, other), numbers is not None)

    def test_never_both(self):
        chance = random.Random(82)
        for canal in KINDS + all_canals(20):
            one, other, reds, blues = some_ends(chance, canal)
            standings = [other, some_standing(chance, canal), *other_boats(other)]
            for last in standings[:2] + chance.sample(standings, min(len(standings), 6)):
                self.either(canal, one, last)
                self.either(canal, last, one)

    def test_never_both_at_the_bounds(self):
        chance = random.Random(83)
        for canal in [large_canal(chance) for _ in range(15)]:
            one, other, numbers = some_pair(chance, canal)
            most = (10 ** 12,) * 8, (10 ** 12,) * 8, (1,) * 10
            for last in (other, most, changed(other, 0, 3, 1), changed(changed(other, 1, 3, 1), 1, 5, -1)):
                self.either(canal, one, last)
            self.either(canal, most, ((0,) * 8, (0,) * 8, (0,) * 10))


class ByTheMeasures(Case):
    """(c)"""

    def test_weights_by_all_scales(self):
        chance = random.Random(84)
        for canal in KINDS + all_canals(20) + [large_canal(chance) for _ in range(10)]:
            told = scales(canal)
            self.same([heights[0] for heights in told], measures(canal))
            one, other, reds, blues = some_ends(chance, canal)
            seen = [one, other, *other_boats(one), some_standing(chance, canal)]
            seen = [one, other, *chance.sample(seen, min(len(seen), 6))]
            weights = [[weight(canal, heights, standing) for heights in told] for standing in seen]
            lot_of = {place: at for at, lot in enumerate(lots(canal, seen)) for place in lot}
            for first in range(len(seen)):
                for last in range(len(seen)):
                    alike = weights[first] == weights[last]
                    with self.subTest((canal, seen[first], seen[last])):
                        self.assertIs(have_counts(canal, seen[first], seen[last]), alike)
                        self.assertIs(lot_of[first] == lot_of[last], alike)
