import random
from math import gcd

from crosslocks.counts import counts, rounds, sure
from crosslocks.errors import NoCounts
from crosslocks.tellers import known, round_by, shows_teller, stride, teller
from tests.apart import (
    BESIDE, FOUR, TWICE, all_canals, changed, fits, goes_round, is_sure, large_canal, many_of, ring_of, small_canals,
    some_ends, some_pair, stride_of, tells, variants, weighs)
from tests.samples import DEEP, DEEPEST, LOOPS, ODD, RING, Case, listed, mixed

THINGS = ODD + DEEP + DEEPEST


def locks_of(canals):
    return [(canal, lock) for canal in canals for lock in range(len(canal[2]))]


def times(many, told):
    return (many * told[0],) + tuple(tuple(many * height for height in part) for part in told[1:])


class Teller(Case):
    def test_none_just_of_a_lock_that_is_not_sure(self):
        for canal, lock in locks_of(all_canals()):
            told = teller(canal, lock)
            with self.subTest((canal, lock, told)):
                if is_sure(canal, lock):
                    self.assertTrue(tells(canal, lock, told))
                else:
                    self.assertIs(told, None)

    def test_of_the_least_many(self):
        for canal, lock in locks_of(small_canals()):
            if is_sure(canal, lock):
                with self.subTest((canal, lock)):
                    self.same(teller(canal, lock)[0], many_of(canal, lock))

    def test_by_hand(self):
        self.same([teller(RING, lock) for lock in range(3)], [None] * 3)
        self.same([teller(LOOPS, lock) is None for lock in range(3)], [True, True, False])
        self.same(teller(LOOPS, 2)[0], 1)
        for many in range(1, 9):
            for lock in range(many):
                self.same(teller(ring_of(many), lock)[0], many)
        self.same([teller(FOUR, lock)[0] for lock in range(6)], [4] * 6)

    def test_lists_for_tuples(self):
        for canal, lock in locks_of(all_canals(10)):
            self.same(teller(listed(canal), lock), teller(canal, lock))
            self.same(teller(mixed(canal), lock), teller(canal, lock))

    def test_it_weighs_many_times_the_number(self):
        chance = random.Random(70)
        for canal in all_canals(30):
            one, other, numbers = some_pair(chance, canal)
            for lock in sure(canal):
                many, reds, blues = teller(canal, lock)
                more = weighs(canal, (0, reds, blues), other) - weighs(canal, (0, reds, blues), one)
                with self.subTest((canal, lock, one, other)):
                    self.assertEqual(more, many * numbers[lock])


class ShowsTeller(Case):
    def asked(self, canal, lock, thing):
        with self.subTest((canal, lock, thing)):
            self.assertIs(shows_teller(canal, lock, thing), tells(canal, lock, thing))

    def test_of_it_and_of_it_many_times(self):
        for canal in all_canals():
            for lock in sure(canal):
                told = teller(canal, lock)
                for many in (1, 2, 7, 10 ** 15):
                    self.assertIs(shows_teller(canal, lock, times(many, told)), True)
                    self.assertIs(shows_teller(listed(canal), lock, times(many, told)), True)
                for many in (0, -1, -5):
                    self.assertIs(shows_teller(canal, lock, times(many, told)), False)
                self.assertIs(shows_teller(canal, lock, (told[0] + 1,) + told[1:]), False)
                raised = told[:1] + tuple(tuple(height + 3 for height in part) for part in told[1:])
                self.assertIs(shows_teller(canal, lock, raised), True)
                for other in range(len(canal[2])):
                    self.assertIs(shows_teller(canal, other, told), other == lock)

    def test_by_hand(self):
        canal = (2, 2, ((0, 1, 0, 1),))
        self.assertIs(shows_teller(canal, 0, (1, (0, 1), (0, 0))), True)
        self.assertIs(shows_teller(canal, 0, (1, (0, 0), (1, 0))), True)
        self.assertIs(shows_teller(canal, 0, (1, (0, 0), (0, 1))), False)
        self.assertIs(shows_teller(canal, 0, (2, (0, 1), (1, 0))), True)
        self.assertIs(shows_teller(canal, 0, (1, (0, 1), (1, 0))), False)
        self.assertIs(shows_teller(canal, 0, (0, (0, 1), (0, 1))), False)
        self.assertIs(shows_teller(canal, 0, (-1, (1, 0), (0, 0))), False)
        self.assertIs(shows_teller(canal, 0, (True, (0, 1), (0, 0))), False)
        self.assertIs(shows_teller(canal, 0, (1, (False, True), (0, 0))), False)
        self.assertIs(shows_teller(canal, 0, [1, (0, 1), (0, 0)]), False)
        self.assertIs(shows_teller(canal, 0, (1, [0, 1], (0, 0))), False)
        self.assertIs(shows_teller(canal, 0, (1, (0, 1), (0, 0, 0))), False)
        self.assertIs(shows_teller(canal, 0, None), False)

    def test_any_thing(self):
        for canal, lock in locks_of([RING, LOOPS, ring_of(3), (2, 2, ((0, 1, 0, 1),)), (1, 1, ((0, 0, 0, 0),))]):
            told = teller(canal, lock)
            for thing in [*THINGS, *([] if told is None else variants(told))]:
                self.asked(canal, lock, thing)


class RoundBy(Case):
    def test_none_just_of_a_sure_lock(self):
        for canal, lock in locks_of(all_canals()):
            told = round_by(canal, lock)
            with self.subTest((canal, lock, told)):
                if is_sure(canal, lock):
                    self.assertIs(told, None)
                else:
                    self.assertTrue(goes_round(canal, told))
                    self.assertNotEqual(told[lock], 0)

    def test_it_shows_that_it_is_not_told_further(self):
        for canal, lock in locks_of(all_canals()):
            if not is_sure(canal, lock):
                with self.subTest((canal, lock)):
                    self.assertEqual(abs(round_by(canal, lock)[lock]), stride(canal, lock))

    def test_lists_for_tuples(self):
        for canal, lock in locks_of(all_canals(10)):
            self.same(round_by(listed(canal), lock), round_by(canal, lock))
            self.same(round_by(mixed(canal), lock), round_by(canal, lock))


class Stride(Case):
    def test_of_small_ones(self):
        for canal, lock in locks_of(small_canals()):
            with self.subTest((canal, lock)):
                self.same(stride(canal, lock), 0 if is_sure(canal, lock) else stride_of(canal, lock))
                self.same(stride(listed(canal), lock), stride(canal, lock))

    def test_what_all_rounds_are_multiples_of(self):
        chance = random.Random(71)
        for canal, lock in locks_of(all_canals() + [large_canal(chance) for _ in range(20)]):
            with self.subTest((canal, lock)):
                self.same(stride(canal, lock), gcd(*[turn[lock] for turn in rounds(canal)]))

    def test_by_hand(self):
        self.same([stride(TWICE, lock) for lock in range(4)], [2, 1, 1, 1])
        self.same([stride(BESIDE, lock) for lock in range(3)], [1, 1, 1])
        self.same([stride(FOUR, lock) for lock in range(6)], [0] * 6)
        self.same([stride(LOOPS, lock) for lock in range(3)], [1, 1, 0])


class Known(Case):
    def no_counts(self, *handed):
        with self.subTest(handed):
            with self.assertRaises(NoCounts) as caught:
                known(*handed)
            self.assertIs(type(caught.exception), NoCounts)

    def test_what_really_went(self):
        chance = random.Random(72)
        for canal in all_canals():
            one, other, reds, blues = some_ends(chance, canal)
            for lock in range(len(canal[2])):
                by = stride(canal, lock)
                wanted = (reds[lock] % by if by else reds[lock], by)
                with self.subTest((canal, lock, one, other)):
                    self.same(known(canal, lock, one, other), wanted)
                    self.same(known(listed(canal), lock, listed(one), mixed(other)), wanted)

    def test_by_each_multiple_some_do(self):
        chance = random.Random(73)
        for canal in all_canals(20):
            one, other, numbers = some_pair(chance, canal, 100)
            for lock in range(len(canal[2])):
                number, by = known(canal, lock, one, other)
                self.assertTrue(by == 0 or 0 <= number < by)
                if by:
                    found, turn = counts(canal, one, other), round_by(canal, lock)
                    for many in (-2, 0, 3):
                        more = (number + many * by - found[lock]) // turn[lock]
                        there = [here + more * step for here, step in zip(found, turn)]
                        self.assertEqual(there[lock], number + many * by)
                        self.assertTrue(fits(canal, one, other, there))

    def test_by_hand(self):
        none = (3, 3, 3), (3, 3, 3), (0, 0, 0, 0)
        self.same(known(TWICE, 0, none, none), (0, 2))
        self.same(known(TWICE, 0, none, ((2, 4, 3), (3, 3, 3), (1, 0, 0, 0))), (1, 2))
        self.same(known(TWICE, 0, ((2, 4, 3), (3, 3, 3), (1, 0, 0, 0)), none), (1, 2))
        self.same(known(TWICE, 0, none, ((3, 3, 3), (2, 4, 3), (1, 0, 0, 0))), (0, 2))
        self.same(known(TWICE, 1, none, ((4, 2, 3), (3, 3, 3), (0, 1, 0, 0))), (0, 1))
        canal = (2, 2, ((0, 1, 0, 1),))
        self.same(known(canal, 0, ((5, 0), (0, 5), (0,)), ((0, 5), (4, 1), (1,))), (5, 0))
        self.same(known(canal, 0, ((0, 5), (4, 1), (1,)), ((5, 0), (0, 5), (0,))), (-5, 0))

    def test_ten_to_the_twelve_boats(self):
        chance = random.Random(74)
        for canal in all_canals(20) + [large_canal(chance) for _ in range(10)]:
            one, other, numbers = some_pair(chance, canal)
            for lock in range(len(canal[2])):
                by = stride(canal, lock)
                self.same(known(canal, lock, one, other), (numbers[lock] % by if by else numbers[lock], by))

    def test_no_counts(self):
        chance = random.Random(75)
        for canal, lock in locks_of(all_canals(10)):
            one, other, numbers = some_pair(chance, canal, 50)
            self.no_counts(canal, lock, one, changed(other, 0, 0, 1))
            self.no_counts(listed(canal), lock, listed(changed(one, 1, 0, 1)), listed(other))
        self.no_counts(ring_of(3), 1, ((1, 0, 0), (0, 0), (0, 0, 0)), ((0, 1, 0), (0, 0), (0, 0, 0)))
