import random

from crosslocks.canals import exchanged, exchanged_standing
from crosslocks.counts import almanac, counts, rounds, shows_counts, shows_round, sure
from crosslocks.errors import NoCounts
from tests.apart import (
    BESIDE, FOUR, SELVES, TWICE, all_canals, beside, changed, fits, goes_round, is_sure, large_canal, minors, other_boats,
    rank, ring_of, rows_of, small_canals, solvable, some_ends, some_pair, variants)
from tests.samples import BARE, DEEP, DEEPEST, LOOPS, ODD, RING, Case, exact, listed, mixed, some_standing

THINGS = ODD + DEEP + DEEPEST


class Counts(Case):
    def right(self, canal, one, other):
        told = counts(canal, one, other)
        with self.subTest((canal, one, other, told)):
            self.assertTrue(fits(canal, one, other, told))

    def none(self, canal, one, other):
        with self.subTest((canal, one, other)):
            self.assertIs(counts(canal, one, other), None)

    def test_by_hand(self):
        canal = (2, 2, ((0, 1, 0, 1),))
        self.same(counts(canal, ((1, 0), (0, 0), (0,)), ((0, 1), (0, 0), (1,))), [1])
        self.same(counts(canal, ((0, 1), (0, 0), (1,)), ((1, 0), (0, 0), (0,))), [-1])
        self.same(counts(canal, ((0, 0), (1, 0), (0,)), ((0, 0), (0, 1), (1,))), [0])
        self.same(counts(canal, ((5, 0), (0, 5), (0,)), ((0, 5), (5, 0), (0,))), [5])
        self.same(counts(canal, ((5, 0), (0, 5), (0,)), ((0, 5), (4, 1), (1,))), [5])
        self.same(counts(canal, ((5, 0), (0, 5), (1,)), ((0, 5), (6, 0), (0,))), None)
        self.same(counts(canal, ((5, 0), (0, 6), (1,)), ((0, 5), (6, 0), (0,))), [5])

    def test_both_ends_of_a_row(self):
        chance = random.Random(30)
        for canal in all_canals():
            one, other, reds, blues = some_ends(chance, canal)
            self.right(canal, one, other)
            self.right(canal, other, one)
            self.assertIs(shows_counts(canal, one, other, reds), True)

    def test_one_and_the_same_standing(self):
        chance = random.Random(31)
        for canal in all_canals():
            standing = some_standing(chance, canal)
            self.right(canal, standing, standing)

    def test_the_other_way_about(self):
        chance = random.Random(32)
        for canal in all_canals():
            one, other, numbers = some_pair(chance, canal, 100)
            back = [-number for number in counts(canal, other, one)]
            self.assertIs(shows_counts(canal, one, other, back), True)

    def test_ten_to_the_twelve_boats(self):
        chance = random.Random(33)
        canal = (2, 2, ((0, 1, 0, 1),))
        most = 10 ** 12
        self.same(counts(canal, ((most, 0), (0, most), (0,)), ((0, most), (most, 0), (0,))), [most])
        self.same(counts(canal, ((most, 0), (0, most), (0,)), ((0, most), (most - 1, 1), (1,))), [most])
        self.same(counts(canal, ((most, 0), (0, most), (0,)), ((0, most), (most - 1, 1), (0,))), None)
        for canal in all_canals() + [large_canal(chance) for _ in range(20)]:
            one, other, numbers = some_pair(chance, canal)
            self.right(canal, one, other)
            self.right(canal, other, one)
            self.none(canal, one, changed(other, 0, 0, 1))

    def test_a_boat_more_somewhere(self):
        chance = random.Random(34)
        for canal in all_canals(20):
            one, other, reds, blues = some_ends(chance, canal)
            for water in (0, 1):
                for basin in range(canal[water]):
                    self.none(canal, one, changed(other, water, basin, 1))
                    self.none(canal, changed(one, water, basin, 1), other)

    def test_as_many_boats_but_elsewhere(self):
        self.none((2, 1, ()), ((1, 0), (0,), ()), ((0, 1), (0,), ()))
        self.none((1, 2, ()), ((0,), (1, 0), ()), ((0,), (0, 1), ()))
        self.none((2, 2, ((0, 1, 0, 1),)), ((1, 0), (1, 0), (0,)), ((0, 1), (1, 0), (0,)))
        self.none((2, 2, ((0, 1, 0, 1),)), ((1, 0), (1, 0), (0,)), ((0, 1), (0, 1), (0,)))
        self.none((2, 2, ((0, 1, 0, 1),)), ((1, 0), (1, 0), (0,)), ((1, 0), (1, 0), (1,)))
        self.none(LOOPS[:2] + (LOOPS[2][:2],), ((1, 0), (1,), (0, 0)), ((0, 1), (1,), (0, 0)))

    def test_only_broken_numbers_around_a_ring(self):
        for many in range(2, 9):
            one = (2 * many,) * many, (many, many), (0,) * many
            for boats in range(1, 2 * many + 1):
                other = changed(changed(one, 0, 0, -boats), 0, 1, boats)
                if boats % many:
                    self.none(ring_of(many), one, other)
                else:
                    self.right(ring_of(many), one, other)

    def test_where_there_are_any(self):
        chance = random.Random(35)
        for canal in small_canals():
            one, other, reds, blues = some_ends(chance, canal, 12)
            seen = [other, *other_boats(other), some_standing(chance, canal)]
            for last in chance.sample(seen, min(len(seen), 8)):
                for stands in {last[2], tuple(1 - stand for stand in last[2])}:
                    there = last[:2] + (stands,)
                    if solvable(canal, one, there):
                        self.right(canal, one, there)
                    else:
                        self.none(canal, one, there)

    def test_canals_without_locks(self):
        self.same(counts(BARE, ((1,), (2,), ()), ((1,), (2,), ())), [])
        self.same(counts(BARE, ((1,), (2,), ()), ((1,), (3,), ())), None)
        self.same(counts((3, 2, ()), ((1, 2, 3), (4, 5), ()), ((1, 2, 3), (4, 5), ())), [])
        self.same(counts((3, 2, ()), ((1, 2, 3), (4, 5), ()), ((1, 3, 2), (4, 5), ())), None)

    def test_lists_for_tuples(self):
        chance = random.Random(36)
        for canal in all_canals(20):
            one, other, numbers = some_pair(chance, canal, 50)
            for last in (other, changed(other, 1, 0, 1)):
                wanted = counts(canal, one, last)
                self.same(counts(listed(canal), listed(one), listed(last)), wanted)
                self.same(counts(mixed(canal), mixed(one, 1), mixed(last)), wanted)

    def test_exchanged_there_are_as_well(self):
        chance = random.Random(37)
        for canal in small_canals(20):
            one, other, numbers = some_pair(chance, canal, 50)
            told = counts(exchanged(canal), exchanged_standing(one), exchanged_standing(other))
            higher = [other[2][at] - one[2][at] - number for at, number in enumerate(told)]
            self.assertTrue(fits(canal, one, other, higher))


class ShowsCounts(Case):
    def asked(self, canal, one, other, thing):
        with self.subTest((canal, one, other, thing)):
            self.assertIs(shows_counts(canal, one, other, thing), fits(canal, one, other, thing))

    def test_what_is_told_and_what_really_went(self):
        chance = random.Random(40)
        for canal in all_canals():
            one, other, reds, blues = some_ends(chance, canal)
            self.assertIs(shows_counts(canal, one, other, counts(canal, one, other)), True)
            self.assertIs(shows_counts(canal, one, other, reds), True)
            self.assertIs(shows_counts(listed(canal), listed(one), listed(other), reds), True)
            self.assertIs(shows_counts(canal, one, other, tuple(reds)), False)
            self.asked(canal, one, other, blues)
            self.asked(canal, other, one, reds)
            for turn in rounds(canal):
                self.assertIs(shows_counts(canal, one, other, [here + there for here, there in zip(reds, turn)]), True)

    def test_many_times_ten_to_the_twelve(self):
        chance = random.Random(41)
        for canal in all_canals(20):
            one, other, numbers = some_pair(chance, canal, 10 ** 40)
            self.assertIs(shows_counts(canal, one, other, numbers), True)
            for at in range(len(numbers)):
                self.asked(canal, one, other, numbers[:at] + [numbers[at] + 1] + numbers[at + 1:])

    def test_true_for_1_and_false_for_0(self):
        canal = (2, 2, ((0, 1, 0, 1),))
        one, other = ((1, 0), (0, 0), (0,)), ((0, 1), (0, 0), (1,))
        self.assertIs(shows_counts(canal, one, other, [1]), True)
        self.assertIs(shows_counts(canal, one, other, [True]), False)
        self.assertIs(shows_counts(canal, one, one, [0]), True)
        self.assertIs(shows_counts(canal, one, one, [False]), False)

    def test_too_long_and_too_short(self):
        for canal in (RING, LOOPS, BARE, TWICE):
            none = (0,) * canal[0], (0,) * canal[1], (0,) * len(canal[2])
            for many in range(8):
                self.assertIs(shows_counts(canal, none, none, [0] * many), many == len(canal[2]))

    def test_of_canals_without_locks(self):
        self.assertIs(shows_counts(BARE, ((1,), (2,), ()), ((1,), (2,), ()), []), True)
        self.assertIs(shows_counts(BARE, ((1,), (2,), ()), ((1,), (2,), ()), ()), False)
        self.assertIs(shows_counts(BARE, ((1,), (2,), ()), ((2,), (2,), ()), []), False)
        self.assertIs(shows_counts(BARE, ((1,), (2,), ()), ((1,), (1,), ()), []), False)

    def test_any_thing(self):
        chance = random.Random(42)
        for canal in (RING, LOOPS, BARE, TWICE, (1, 1, ((0, 0, 0, 0),)), (2, 2, ((0, 1, 0, 1),))):
            one, other, reds, blues = some_ends(chance, canal)
            for thing in [*THINGS, *variants(reds), *variants(counts(canal, one, other))]:
                self.asked(canal, one, other, thing)
                self.asked(canal, one, one, thing)


class ShowsRound(Case):
    def asked(self, canal, thing):
        with self.subTest((canal, thing)):
            self.assertIs(shows_round(canal, thing), goes_round(canal, thing))

    def test_by_hand(self):
        self.assertIs(shows_round(RING, [0, 0, 0]), True)
        self.assertIs(shows_round(RING, [1, 1, 1]), True)
        self.assertIs(shows_round(RING, [-4, -4, -4]), True)
        self.assertIs(shows_round(RING, [1, 1, 0]), False)
        self.assertIs(shows_round(RING, (1, 1, 1)), False)
        self.assertIs(shows_round(RING, [True, True, True]), False)
        self.assertIs(shows_round(RING, [False, False, False]), False)
        self.assertIs(shows_round(RING, [1, 1, 1, 0]), False)
        self.assertIs(shows_round(RING, [1, 1]), False)
        self.assertIs(shows_round(BARE, []), True)
        self.assertIs(shows_round(BARE, ()), False)
        self.assertIs(shows_round(BARE, [0]), False)
        self.assertIs(shows_round(ring_of(3), [1, 1, 1]), False)
        self.assertIs(shows_round(exchanged(ring_of(3)), [1, 1, 1]), False)
        self.assertIs(shows_round(TWICE, [2, 1, 1, 1]), True)
        self.assertIs(shows_round(listed(TWICE), [10 ** 30, 5 * 10 ** 29, 5 * 10 ** 29, 5 * 10 ** 29]), True)

    def test_what_was_put_to_counts(self):
        chance = random.Random(43)
        for canal in all_canals():
            one, other, reds, blues = some_ends(chance, canal)
            turn = [here - there for here, there in zip(reds, counts(canal, one, other))]
            self.assertIs(shows_round(canal, turn), True)

    def test_any_thing(self):
        for canal in (RING, LOOPS, BARE, TWICE, BESIDE, (1, 1, ((0, 0, 0, 0),))):
            for thing in [*THINGS, *[thing for turn in rounds(canal) for thing in variants(turn)]]:
                self.asked(canal, thing)


class Rounds(Case):
    def test_each_is_one_and_each_is_put_together_in_just_one_way(self):
        for canal in all_canals():
            told = rounds(canal)
            with self.subTest((canal, told)):
                self.assertIs(type(told), list)
                for turn in told:
                    self.assertTrue(goes_round(canal, turn))
                # So many that none is put together of the others, and nothing whole lies between them.
                self.assertEqual(len(told), len(canal[2]) - rank(rows_of(canal)))
                self.assertEqual(minors(told, len(told)), 1)

    def test_rounds_told_as_lists(self):
        for canal in small_canals(20):
            wanted = rounds(canal)
            self.same(rounds(listed(canal)), wanted)
            self.same(rounds(mixed(canal)), wanted)

    def test_where_there_are_none(self):
        for canal in (BARE, (8, 8, ()), FOUR, ring_of(1), ring_of(5), exchanged(ring_of(4)), (2, 1, ((0, 1, 0, 0),))):
            with self.subTest(canal):
                self.same(rounds(canal), [])

    def test_only_one_but_for_its_sign(self):
        for canal, turn in ((RING, [1, 1, 1]), (TWICE, [2, 1, 1, 1]), ((1, 1, ((0, 0, 0, 0),)), [1]),
                            ((2, 2, ((0, 1, 0, 1), (1, 0, 1, 0))), [1, 1]), ((2, 2, ((0, 1, 1, 0), (0, 1, 1, 0))), [1, -1])):
            with self.subTest(canal):
                self.assertIn(exact(rounds(canal)), [exact([turn]), exact([[-number for number in turn]])])

    def test_side_by_side_and_from_a_basin_to_itself(self):
        self.assertEqual(len(rounds(BESIDE)), 2)
        self.assertEqual(len(rounds(SELVES)), 3)
        self.assertEqual(len(rounds((1, 1, ((0, 0, 0, 0),) * 10))), 10)
        # By a lock that leads to itself in one water alone nothing goes round.
        self.assertEqual(rounds((1, 2, ((0, 0, 0, 1),))), [])


class Sure(Case):
    def test_of_all(self):
        for canal in all_canals():
            with self.subTest(canal):
                self.same(sure(canal), [lock for lock in range(len(canal[2])) if is_sure(canal, lock)])
                self.same(sure(listed(canal)), sure(canal))

    def test_by_hand(self):
        self.same(sure(BARE), [])
        self.same(sure(RING), [])
        self.same(sure(ring_of(4)), [0, 1, 2, 3])
        self.same(sure(FOUR), [0, 1, 2, 3, 4, 5])
        self.same(sure((1, 1, ((0, 0, 0, 0),))), [])
        self.same(sure(LOOPS), [2])
        self.same(sure(beside(RING, ring_of(2))), [3, 4])
        self.same(sure(beside(ring_of(2), RING)), [0, 1])

    def test_just_where_each_round_has_0(self):
        for canal in all_canals():
            turns = rounds(canal)
            self.same(sure(canal), [lock for lock in range(len(canal[2])) if not any(turn[lock] for turn in turns)])


class Almanac(Case):
    def no_counts(self, canal, one, other):
        with self.subTest((canal, one, other)):
            with self.assertRaises(NoCounts) as caught:
                almanac(canal, one, other)
            self.assertIs(type(caught.exception), NoCounts)

    def test_by_hand(self):
        one, other = ((5, 0), (0, 5), (0,)), ((0, 5), (4, 1), (1,))
        canal = (2, 2, ((0, 1, 0, 1),))
        self.same(almanac(canal, one, other), [(5, -4)])
        self.same(almanac(canal, other, one), [(-5, 4)])
        self.same(almanac(canal, one, one), [(0, 0)])
        self.same(almanac(BARE, ((3,), (4,), ()), ((3,), (4,), ())), [])
        self.same(almanac(LOOPS, ((1, 0), (1,), (0, 0, 0)), ((0, 1), (1,), (1, 0, 1))), [None, None, (1, 0)])
        self.same(almanac(RING, ((1, 0, 0), (0, 0, 0), (0, 0, 0)), ((0, 1, 0), (0, 0, 0), (1, 0, 0))), [None] * 3)

    def test_what_really_went(self):
        chance = random.Random(44)
        for canal in all_canals():
            one, other, reds, blues = some_ends(chance, canal)
            told = [(reds[lock], blues[lock]) if is_sure(canal, lock) else None for lock in range(len(canal[2]))]
            with self.subTest((canal, one, other)):
                self.same(almanac(canal, one, other), told)
                self.same(almanac(listed(canal), listed(one), listed(other)), told)
                back = [None if pair is None else (-pair[0], -pair[1]) for pair in told]
                self.same(almanac(canal, other, one), back)

    def test_ten_to_the_twelve_boats(self):
        chance = random.Random(45)
        for canal in all_canals():
            one, other, numbers = some_pair(chance, canal)
            told = almanac(canal, one, other)
            for lock, pair in enumerate(told):
                with self.subTest((canal, one, other, lock)):
                    number = numbers[lock]
                    higher = other[2][lock] - one[2][lock]
                    self.same(pair, (number, higher - number) if is_sure(canal, lock) else None)

    def test_no_counts(self):
        chance = random.Random(46)
        self.no_counts(BARE, ((1,), (1,), ()), ((1,), (2,), ()))
        self.no_counts(ring_of(3), ((1, 0, 0), (0, 0), (0, 0, 0)), ((0, 1, 0), (0, 0), (0, 0, 0)))
        for canal in all_canals(20):
            one, other, numbers = some_pair(chance, canal, 50)
            self.no_counts(canal, one, changed(other, 0, 0, 1))
            self.no_counts(listed(canal), listed(changed(one, 1, 0, 1)), listed(other))
            self.no_counts(canal, one, changed(changed(other, 0, 0, 1), 1, 0, -1))
