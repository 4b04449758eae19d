import random

from crosslocks.counts import counts
from crosslocks.heights import bar, is_heights, shows_bar, weight
from crosslocks.measures import scales
from tests.apart import (
    BESIDE, FOUR, TWICE, all_canals, are_heights, bars, changed, large_canal, other_boats, ring_of, small_canals, solvable,
    some_ends, some_pair, variants, weighs)
from tests.samples import BARE, DEEP, DEEPEST, LOOPS, ODD, RING, Case, listed, mixed, some_row, some_standing

THINGS = ODD + DEEP + DEEPEST


def more_heights(chance, canal):
    """HEIGHTS of the canal: scales, sums and multiples of these, such with a measure put to them."""
    told = scales(canal)
    for measure, reds, blues in list(told):
        times = chance.randint(-9, 9)
        told.append((measure, tuple(times * height for height in reds), tuple(times * height for height in blues)))
        if measure == 0:
            told.append((chance.choice((2, 3, 10 ** 12)), reds, blues))
        else:
            told.append((measure, tuple(height - 5 * measure for height in reds), blues))
    level = (0, (7,) * canal[0], (-5,) * canal[1])
    return told + [level, (4,) + level[1:]]


class IsHeights(Case):
    def asked(self, canal, thing):
        with self.subTest((canal, thing)):
            self.assertIs(is_heights(canal, thing), are_heights(canal, thing))
            self.assertIs(is_heights(listed(canal), thing), are_heights(canal, thing))

    def test_by_hand(self):
        canal = (2, 2, ((0, 1, 0, 1),))
        self.assertIs(is_heights(canal, (0, (0, 3), (1, 4))), True)
        self.assertIs(is_heights(canal, (0, (3, 0), (4, 1))), True)
        self.assertIs(is_heights(canal, (0, (0, 3), (4, 1))), False)
        self.assertIs(is_heights(canal, (6, (0, 3), (4, 1))), True)
        self.assertIs(is_heights(canal, (3, (0, 3), (4, 1))), True)
        self.assertIs(is_heights(canal, (4, (0, 3), (4, 1))), False)
        self.assertIs(is_heights(canal, (0, (0, 3), (1, 10))), False)
        self.assertIs(is_heights(canal, (6, (0, 3), (1, 10))), True)
        self.assertIs(is_heights(canal, (0, (10 ** 40, 10 ** 40), (-1, -1))), True)

    def test_measures(self):
        for measure in range(-5, 20):
            for canal in (BARE, RING, ring_of(4)):
                level = (measure, (3,) * canal[0], (0,) * canal[1])
                with self.subTest((canal, measure)):
                    self.assertIs(is_heights(canal, level), measure == 0 or measure >= 2)
            ring = (measure, (0, 1, 2, 3, 4, 5), (0, 1))
            with self.subTest(ring):
                self.assertIs(is_heights(ring_of(6), ring), measure in (2, 3, 6))

    def test_true_and_false(self):
        for thing in ((False, (1,), (1,)), (0, (True,), (1,)), (0, (1,), (True,)), (0, (False,), (0,)), (True, (0,), (0,))):
            self.assertIs(is_heights(BARE, thing), False)
        self.assertIs(is_heights(BARE, (0, (1,), (0,))), True)

    def test_lists_for_tuples(self):
        for thing in ([0, (1,), (2,)], (0, [1], (2,)), (0, (1,), [2]), [0, [1], [2]]):
            self.assertIs(is_heights(BARE, thing), False)

    def test_each_lock(self):
        for at in range(3):
            canal = (6, 2, tuple((2 * lock, 2 * lock + 1, 0, 1) for lock in range(3)))
            reds = [0, 1, 0, 1, 0, 1]
            self.assertIs(is_heights(canal, (0, tuple(reds), (0, 1))), True)
            reds[2 * at] = -2
            self.assertIs(is_heights(canal, (0, tuple(reds), (0, 1))), False)
            self.assertIs(is_heights(canal, (2, tuple(reds), (0, 1))), True)

    def test_many(self):
        chance = random.Random(50)
        for canal in all_canals():
            for heights in more_heights(chance, canal):
                with self.subTest((canal, heights)):
                    self.assertIs(is_heights(canal, heights), True)
                    self.assertTrue(are_heights(canal, heights))
                for water in (1, 2):
                    basin = chance.randrange(len(heights[water]))
                    parts = [list(part) for part in heights[1:]]
                    parts[water - 1][basin] += 1
                    self.asked(canal, (heights[0], tuple(parts[0]), tuple(parts[1])))

    def test_any_thing(self):
        for canal in (BARE, RING, LOOPS, ring_of(3), TWICE, (2, 2, ((0, 1, 0, 1),))):
            for thing in [*THINGS, *[thing for heights in scales(canal) for thing in variants(heights)]]:
                self.asked(canal, thing)


class Weight(Case):
    def test_by_hand(self):
        standing = ((1, 2, 3), (4, 5), (1, 0, 1))
        # Boats times heights are 2 + 6 and 5; two locks are high, the blues climb 1 at each.
        self.same(weight(ring_of(3), (3, (0, 1, 2), (0, 1)), standing), 11 % 3)
        self.same(weight(ring_of(3), (3, (0, -2, 2), (3, 4)), standing), (-4 + 6 + 12 + 20 - 2) % 3)
        self.same(weight(ring_of(3), (0, (1, 1, 1), (0, 0)), standing), 6)
        self.same(weight(ring_of(3), (0, (-1, -1, -1), (0, 0)), standing), -6)
        self.same(weight(ring_of(3), (5, (-1, -1, -1), (0, 0)), standing), 4)
        self.same(weight((2, 2, ((0, 1, 0, 1),)), (0, (0, 3), (1, 4)), ((2, 2), (1, 1), (0,))), 11)
        self.same(weight((2, 2, ((0, 1, 0, 1),)), (0, (0, 3), (1, 4)), ((2, 2), (1, 1), (1,))), 8)
        self.same(weight((2, 2, ((0, 1, 0, 1),)), (6, (0, 3), (4, 1)), ((2, 2), (1, 1), (1,))), (6 + 5 + 3) % 6)

    def test_ten_to_the_twelve(self):
        most = 10 ** 12
        self.same(weight(BARE, (0, (most,), (-most,)), ((most,), (0,), ())), 10 ** 24)
        self.same(weight(BARE, (0, (most,), (-most,)), ((0,), (most,), ())), -10 ** 24)
        self.same(weight(BARE, (most, (1,), (most - 1,)), ((most - 1,), (2,), ())), most - 3)

    def test_of_all(self):
        chance = random.Random(51)
        for canal in all_canals():
            standing = some_standing(chance, canal, 9)
            for heights in more_heights(chance, canal):
                with self.subTest((canal, heights, standing)):
                    told = weight(canal, heights, standing)
                    self.same(told, weighs(canal, heights, standing))
                    self.same(weight(listed(canal), listed(heights), listed(standing)), told)
                    self.same(weight(mixed(canal), mixed(heights, 1), mixed(standing)), told)
                    if heights[0]:
                        self.assertTrue(0 <= told < heights[0])

    def test_no_going_changes_it(self):
        chance = random.Random(52)
        for canal in all_canals(20):
            standing = some_standing(chance, canal)
            row, times = some_row(chance, canal, standing, 40)
            for heights in more_heights(chance, canal):
                for now in times:
                    with self.subTest((canal, heights, now)):
                        self.same(weight(canal, heights, now), weight(canal, heights, standing))


class Bar(Case):
    def right(self, canal, one, other):
        told = bar(canal, one, other)
        with self.subTest((canal, one, other, told)):
            self.assertTrue(bars(canal, one, other, told))
            self.assertIs(shows_bar(canal, one, other, told), True)

    def test_none_just_where_there_are_counts(self):
        chance = random.Random(53)
        for canal in small_canals():
            one, other, reds, blues = some_ends(chance, canal, 12)
            seen = [other, *other_boats(other), some_standing(chance, canal)]
            for last in chance.sample(seen, min(len(seen), 8)):
                if solvable(canal, one, last):
                    self.assertIs(bar(canal, one, last), None)
                else:
                    self.right(canal, one, last)

    def test_both_ends_of_a_row(self):
        chance = random.Random(54)
        for canal in all_canals():
            one, other, reds, blues = some_ends(chance, canal)
            self.assertIs(bar(canal, one, other), None)
            self.assertIs(bar(canal, other, one), None)
            self.assertIs(bar(canal, one, one), None)
            self.right(canal, one, changed(other, 0, 0, 1))
            self.right(canal, changed(one, 1, canal[1] - 1, 1), other)

    def test_around_a_ring(self):
        for many in range(2, 9):
            one = (1,) * many, (1, 1), (0,) * many
            self.right(ring_of(many), one, changed(changed(one, 0, 0, -1), 0, 1, 1))
            self.assertGreater(bar(ring_of(many), one, changed(changed(one, 0, 0, -1), 0, 1, 1))[0], 1)

    def test_at_the_bounds(self):
        chance = random.Random(55)
        for canal in [large_canal(chance) for _ in range(20)] + [FOUR, ring_of(8)]:
            one, other, numbers = some_pair(chance, canal)
            self.assertIs(bar(canal, one, other), None)
            for water in (0, 1):
                for basin in range(canal[water]):
                    last = changed(changed(other, water, basin, 1), water, 0, -1)
                    if counts(canal, one, last) is None:
                        self.right(canal, one, last)
                    else:
                        self.assertIs(bar(canal, one, last), None)
                    self.right(canal, one, changed(other, water, basin, 1))

    def test_without_locks(self):
        self.assertIs(bar(BARE, ((1,), (2,), ()), ((1,), (2,), ())), None)
        self.right(BARE, ((1,), (2,), ()), ((1,), (3,), ()))
        self.right((3, 2, ()), ((1, 2, 3), (4, 5), ()), ((1, 3, 2), (4, 5), ()))

    def test_lists_for_tuples(self):
        chance = random.Random(56)
        for canal in all_canals(20):
            one, other, numbers = some_pair(chance, canal, 50)
            for last in (other, changed(other, 0, 0, 1)):
                wanted = bar(canal, one, last)
                self.same(bar(listed(canal), listed(one), listed(last)), wanted)
                self.same(bar(mixed(canal), mixed(one, 1), mixed(last)), wanted)


class ShowsBar(Case):
    def asked(self, canal, one, other, thing):
        with self.subTest((canal, one, other, thing)):
            self.assertIs(shows_bar(canal, one, other, thing), bars(canal, one, other, thing))

    def test_by_hand(self):
        one, other = ((1, 1, 1), (1, 1), (0, 0, 0)), ((0, 2, 1), (1, 1), (0, 0, 0))
        self.assertIs(shows_bar(ring_of(3), one, other, (3, (0, 1, 2), (0, 1))), True)
        self.assertIs(shows_bar(ring_of(3), one, other, (3, (0, 2, 4), (0, 2))), True)
        self.assertIs(shows_bar(ring_of(3), one, other, (3, (1, 1, 1), (0, 0))), False)
        self.assertIs(shows_bar(ring_of(3), one, other, (0, (1, 1, 1), (0, 0))), False)
        self.assertIs(shows_bar(ring_of(3), one, other, (4, (0, 1, 2), (0, 1))), False)
        self.assertIs(shows_bar(ring_of(3), one, other, (0, (0, 1, 2), (0, 1))), False)
        self.assertIs(shows_bar(ring_of(3), one, other, [3, [0, 1, 2], [0, 1]]), False)
        self.assertIs(shows_bar(ring_of(3), one, other, None), False)
        self.assertIs(shows_bar(listed(ring_of(3)), listed(one), listed(other), (3, (0, 1, 2), (0, 1))), True)

    def test_of_other_heights(self):
        chance = random.Random(57)
        for canal in all_canals(30):
            one, other, reds, blues = some_ends(chance, canal)
            for last in (other, changed(other, 0, 0, 1), some_standing(chance, canal)):
                for heights in more_heights(chance, canal):
                    self.asked(canal, one, last, heights)

    def test_any_thing(self):
        chance = random.Random(58)
        for canal in (BARE, RING, LOOPS, ring_of(3), BESIDE):
            one, other, reds, blues = some_ends(chance, canal)
            for last in (other, changed(other, 1, 0, 1)):
                for thing in [*THINGS, *[thing for heights in scales(canal) for thing in variants(heights)]]:
                    self.asked(canal, one, last, thing)
