"""Point [1] (a) to (g): over canals, maps, Keeps and rows of goings that are made up here."""

import random

from crosslocks.alone import asleep, leads, row_alone
from crosslocks.canals import exchanged, exchanged_standing
from crosslocks.counts import almanac, counts, shows_counts, shows_round, sure
from crosslocks.goings import gone_all
from crosslocks.heights import bar, shows_bar, weight
from crosslocks.keep import Keep
from crosslocks.maps import canal_of, is_flat, is_map, trees
from crosslocks.measures import have_counts, lots, measures, scales
from crosslocks.plenty import fewest, how_many, is_enough, plain_row, wanted
from crosslocks.small import far, lot_of, scarce, way
from crosslocks.tellers import known, round_by, stride
from crosslocks.tolls import paid, paid_by, step
from tests.apart import (
    FOUR, KINDS, TWICE, all_canals, changed, goes_round, large_canal, moved, other_boats, ring_of, some_ends, some_pair)
from tests.charts import flat_maps, trees_in
from tests.model import Model, Refused, error_of, some_deed
from tests.samples import Case, some_row, some_standing
from tests.through import all_alone, behind, is_multiple, pays, rows_to_all, shortest_with, some_tolls, went_in


class FromTwoStandingsAlone(Case):
    """(a)"""

    def told_right(self, canal, one, other, reds, blues):
        told = almanac(canal, one, other)
        for lock in range(len(canal[2])):
            number, by = known(canal, lock, one, other)
            with self.subTest((canal, one, other, lock)):
                if lock in sure(canal):
                    self.same(told[lock], (reds[lock], blues[lock]))
                    self.same((number, by), (reds[lock], 0))
                else:
                    self.same(told[lock], None)
                    self.assertGreater(by, 0)
                    self.assertEqual((reds[lock] - number) % by, 0)

    def test_however_long_boats_went(self):
        chance = random.Random(80)
        for many in (0, 1, 2, 5, 40):
            for canal in KINDS + all_canals(6):
                self.told_right(canal, *some_ends(chance, canal, many))
        for canal in (TWICE, FOUR, ring_of(8), large_canal(chance), large_canal(chance)):
            self.told_right(canal, *some_ends(chance, canal, 1500))

    def test_a_round_shows_that_it_is_not_told_further(self):
        chance = random.Random(81)
        for canal in KINDS + all_canals(20):
            one, other, reds, blues = some_ends(chance, canal)
            for lock in range(len(canal[2])):
                if lock in sure(canal):
                    continue
                turn = round_by(canal, lock)
                with self.subTest((canal, lock, turn)):
                    self.assertTrue(goes_round(canal, turn))
                    self.assertIs(shows_round(canal, turn), True)
                    self.assertEqual(abs(turn[lock]), stride(canal, lock))
                    # Other numbers at that lock lead to the very same standing.
                    numbers = [here + step for here, step in zip(reds, turn)]
                    self.same(moved(canal, one, numbers, other[2]), other)
                    self.assertIs(shows_counts(canal, one, other, numbers), True)


class CountsOrABar(Case):
    """(b)"""

    def either(self, canal, one, other):
        numbers, heights = counts(canal, one, other), bar(canal, one, other)
        with self.subTest((canal, one, other, numbers, heights)):
            self.assertNotEqual(numbers is None, heights is None)
            self.assertIs(shows_counts(canal, one, other, numbers), numbers is not None)
            self.assertIs(shows_bar(canal, one, other, heights), heights is not None)
            self.assertIs(have_counts(canal, one, other), numbers is not None)

    def test_never_both(self):
        chance = random.Random(82)
        for canal in KINDS + all_canals(20):
            one, other, reds, blues = some_ends(chance, canal)
            standings = [other, some_standing(chance, canal), *other_boats(other)]
            for last in standings[:2] + chance.sample(standings, min(len(standings), 6)):
                self.either(canal, one, last)
                self.either(canal, last, one)

    def test_never_both_at_the_bounds(self):
        chance = random.Random(83)
        for canal in [large_canal(chance) for _ in range(15)]:
            one, other, numbers = some_pair(chance, canal)
            most = (10 ** 12,) * 8, (10 ** 12,) * 8, (1,) * 10
            for last in (other, most, changed(other, 0, 3, 1), changed(changed(other, 1, 3, 1), 1, 5, -1)):
                self.either(canal, one, last)
            self.either(canal, most, ((0,) * 8, (0,) * 8, (0,) * 10))


class ByTheMeasures(Case):
    """(c)"""

    def test_weights_by_all_scales(self):
        chance = random.Random(84)
        for canal in KINDS + all_canals(20) + [large_canal(chance) for _ in range(10)]:
            told = scales(canal)
            self.same([heights[0] for heights in told], measures(canal))
            one, other, reds, blues = some_ends(chance, canal)
            seen = [one, other, *other_boats(one), some_standing(chance, canal)]
            seen = [one, other, *chance.sample(seen, min(len(seen), 6))]
            weights = [[weight(canal, heights, standing) for heights in told] for standing in seen]
            lot_of = {place: at for at, lot in enumerate(lots(canal, seen)) for place in lot}
            for first in range(len(seen)):
                for last in range(len(seen)):
                    alike = weights[first] == weights[last]
                    with self.subTest((canal, seen[first], seen[last])):
                        self.assertIs(have_counts(canal, seen[first], seen[last]), alike)
                        self.assertIs(lot_of[first] == lot_of[last], alike)


class WhereBoatsArePlenty(Case):
    """(d)"""

    def test_counts_are_gone(self):
        chance = random.Random(85)
        for canal in KINDS + all_canals(20) + [large_canal(chance) for _ in range(10)]:
            one = (99,) * canal[0], (99,) * canal[1], some_standing(chance, canal)[2]
            other = moved(canal, one, [chance.randint(-9, 9) for _ in canal[2]], some_standing(chance, canal)[2])
            numbers = counts(canal, one, other)
            row = plain_row(canal, one, other, numbers)
            with self.subTest((canal, one, other, numbers)):
                self.same(is_enough(canal, one, other, numbers), True)
                self.same(gone_all(canal, one, row), other)
                self.same(behind(canal, one, row), other)
                self.same(went_in(canal, one, row)[0], numbers)
                self.same(how_many(canal, one, other, numbers), len(row))

    def test_with_just_as_many_boats_as_are_wanted(self):
        chance = random.Random(86)
        for canal in KINDS + all_canals(20):
            numbers = [chance.randint(-3, 3) for _ in canal[2]]
            none = (0,) * canal[0], (0,) * canal[1], some_standing(chance, canal)[2]
            stands = some_standing(chance, canal)[2]
            one = (*wanted(canal, none, moved(canal, none, numbers, stands), numbers), none[2])
            other = moved(canal, one, numbers, stands)
            self.same(gone_all(canal, one, plain_row(canal, one, other, numbers)), other)

    def test_by_the_fewest_goings(self):
        chance = random.Random(87)
        for canal in KINDS:
            one = (4,) * canal[0], (4,) * canal[1], some_standing(chance, canal)[2]
            numbers = [0] * len(canal[2])
            for lock in chance.sample(range(len(canal[2])), 2):
                numbers[lock] = chance.choice((-1, 1))
            other = moved(canal, one, numbers, one[2])
            with self.subTest((canal, one, other, numbers)):
                self.same(how_many(canal, one, other, numbers), 4)
                self.same(shortest_with(canal, one, other, numbers, 4), 4)

    def test_fewest_against_all_that_is_gone_through(self):
        seen = 0
        chance = random.Random(88)
        for canal in (FOUR, ring_of(1), ring_of(2), ring_of(3), ring_of(4), (2, 2, ((0, 1, 0, 1),))):
            for _ in range(4):
                one = some_standing(chance, canal, 1)
                rows = rows_to_all(canal, one)
                if rows is None:
                    continue
                for other in chance.sample(sorted(rows), min(len(rows), 20)):
                    enough = is_enough(canal, one, other, counts(canal, one, other))
                    seen += enough
                    with self.subTest((canal, one, other)):
                        self.assertLessEqual(fewest(canal, one, other), far(canal, one, other))
                        if enough:
                            self.same(fewest(canal, one, other), far(canal, one, other))
                        self.same(len(way(canal, one, other)), len(rows[other]))
                        self.same(scarce(canal, one, other), False)
        self.assertGreater(seen, 40)


class OneWaterAlone(Case):
    """(e)"""

    def test_against_all_that_is_gone_through(self):
        chance = random.Random(89)
        for canal in KINDS + [TWICE, ring_of(3)]:
            if len(canal[2]) > 5:
                continue
            for boats in (0, 1, 2):
                standings = list(all_alone(canal, "red", boats))
                one = chance.choice(standings)
                lot = lot_of(canal, one)
                for other in standings:
                    comes = leads(canal, one, other, "red")
                    if comes != (other in lot):
                        self.fail((canal, one, other))
                    row = row_alone(canal, one, other, "red")
                    self.assertEqual(row is not None, comes)
                    if comes:
                        self.assertEqual(gone_all(canal, one, row), other)
                        self.assertEqual(asleep(canal, other, "red"), asleep(canal, one, "red"))
                    turned = [exchanged_standing(one), exchanged_standing(other)]
                    self.assertIs(leads(exchanged(canal), *turned, "blue"), comes)


class FlatMaps(Case):
    """(f)"""

    def test_each_lock_is_sure_and_measures_multiply_to_the_trees(self):
        chance = random.Random(92)
        for chart in flat_maps(100):
            canal = canal_of(chart)
            with self.subTest(chart):
                self.same((is_map(chart), is_flat(chart)), (True, True))
                self.same(sure(canal), list(range(len(canal[2]))))
                told = 1
                for measure in measures(canal):
                    told *= measure if measure > 1 else 1
                self.same(told, trees_in(canal))
                self.same(trees(canal), trees_in(canal))
                self.same(trees_in(exchanged(canal)), trees_in(canal))
                # So all that went is told, however it went.
                one, other, reds, blues = some_ends(chance, canal)
                self.same(almanac(canal, one, other), list(zip(reds, blues)))


class WhatWasPaid(Case):
    """(g)"""

    def test_what_was_really_paid(self):
        chance = random.Random(91)
        for canal in KINDS + all_canals(20) + [large_canal(chance) for _ in range(10)]:
            standing = some_standing(chance, canal)
            for most in (5, 10 ** 12):
                row, times = some_row(chance, canal, standing, chance.choice((0, 1, 10, 80)))
                tolls = some_tolls(chance, canal, most)
                really = pays(canal, tolls, standing, row)
                what, by = paid(canal, tolls, standing, times[-1])
                with self.subTest((canal, tolls, standing, row)):
                    self.same(paid_by(canal, tolls, standing, row), really)
                    self.same(by, step(canal, tolls))
                    self.assertTrue(is_multiple(really - what, by))
                    self.assertTrue(by == 0 or 0 <= what < by)


class ACanalKept(Case):
    """(g)"""

    def test_the_almanac_whatever_went_between(self):
        chance = random.Random(93)
        for chart in flat_maps(30):
            canal = canal_of(chart)
            standing = some_standing(chance, canal, 2)
            keep, model = Keep(canal, standing), Model(canal, standing)
            for _ in range(30):
                word, *handed = some_deed(chance, model)
                if word == "dig":
                    continue
                try:
                    model.do(word, *handed)
                except Refused as refusal:
                    self.refused(*error_of(refusal), getattr(keep, word), *handed)
                else:
                    getattr(keep, word)(*handed)
            tolls = some_tolls(chance, canal)
            with self.subTest((chart, standing, model.deeds)):
                # Each lock is sure, so the almanac is all that really went, and what was paid is told.
                self.same(keep.almanac(), list(zip(*model.went())))
                self.same(keep.paid(tolls), (model.pays(tolls), 0))
                self.same(keep.went(), model.went())
