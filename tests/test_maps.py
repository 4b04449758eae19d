import random

from crosslocks.canals import exchanged, is_canal
from crosslocks.counts import sure
from crosslocks.maps import canal_of, faces, is_flat, is_map, trees
from crosslocks.measures import measures
from tests.apart import BESIDE, FOUR, all_canals, beside, large_canal, ring_of, variants
from tests.charts import (
    BY_HAND, CROSSED, HUB, LOOP, NESTED, ONE_BASIN, ONE_LOCK, PAIR, THREE, TWISTED, TWO_LOOPS, all_maps, canal_in_chart,
    faces_in, flat_maps, locks_in, round_of, some_flat, trees_in)
from tests.samples import BARE, DEEP, DEEPEST, LOOPS, ODD, RING, Case, deep, exact, listed, mixed, spoilt, tupled


def is_right(thing):
    """Whether a thing is a MAP, by the document's words, looked at one by one."""
    if type(thing) is not tuple or not thing or any(type(basin) is not tuple for basin in thing):
        return False
    ends = [end for basin in thing for end in basin]
    if any(type(end) is not tuple or len(end) != 2 or [type(part) for part in end] != [int, int] for end in ends):
        return False
    many = len(ends) // 2
    if len(ends) != 2 * many or any(ends.count((lock, side)) != 1 for lock in range(many) for side in (0, 1)):
        return False
    seen = {0}
    for _ in thing:
        for lock in range(many):
            pair = {basin for basin, stand in enumerate(thing) for side in (0, 1) if (lock, side) in stand}
            if seen & pair:
                seen |= pair
    return len(seen) == len(thing)


class IsMap(Case):
    def test_maps(self):
        for chart in all_maps():
            with self.subTest(chart):
                self.assertTrue(is_right(chart))
                self.assertIs(is_map(chart), True)

    def test_one_basin_without_locks(self):
        self.assertIs(is_map(((),)), True)
        for thing in ((), [], [()], ([],), ((), ()), (((),),), None):
            self.assertIs(is_map(thing), False)

    def test_things_with_one_part_put_otherwise(self):
        for chart in BY_HAND + flat_maps(3)[-4:]:
            for thing in list(variants(chart)) + list(spoilt(chart)):
                if is_map(thing) is not is_right(thing):
                    self.fail((chart, thing))

    def test_things_of_all_kinds(self):
        right = {exact_text(chart) for chart in (ONE_BASIN,)}
        for thing in ODD + DEEP + DEEPEST + [deep(10, (), [tuple]), deep(9, (0, 0), [tuple])]:
            for asked in (thing, (thing,), [thing], ((), thing), ((thing,),), (((0, 0), thing),)):
                with self.subTest(asked):
                    self.assertIs(is_map(asked), exact_text(asked) in right)

    def test_an_end_that_lacks_or_stands_twice(self):
        for thing in [
                (((0, 0),),), (((0, 1),),), (((0, 0), (0, 0)),), (((0, 1), (0, 1)),), (((0, 0), (0, 1), (0, 0)),),
                (((0, 0), (0, 1), (0, 1)),), (((0, 0), (0, 1), (1, 0)),), (((0, 0), (0, 1), (0, 0), (0, 1)),),
                (((0, 0),), ((0, 0),)), (((0, 0), (1, 0)), ((0, 1), (1, 0)))]:
            self.assertIs(is_map(thing), False)

    def test_a_side_beyond(self):
        for side in (2, -1, 10 ** 12, True, False, None, "0", (0,)):
            self.assertIs(is_map((((0, 0), (0, side)),)), False)
            self.assertIs(is_map((((0, 1), (0, side)),)), False)
            self.assertIs(is_map((((0, 0), (0, 1), (1, side)),)), False)

    def test_locks_not_numbered_from_0(self):
        for lock in (1, -1, 2, 10 ** 12):
            self.assertIs(is_map((((lock, 0), (lock, 1)),)), False)
        self.assertIs(is_map((((0, 0), (0, 1), (2, 0), (2, 1)),)), False)
        self.assertIs(is_map((((0, 0), (0, 1), (-1, 0), (-1, 1)),)), False)
        self.assertIs(is_map((((1, 0), (1, 1), (0, 0), (0, 1)),)), True)
        for lock in (True, False, None, "0"):
            self.assertIs(is_map((((lock, 0), (lock, 1)),)), False)
            self.assertIs(is_map((((0, 0), (0, 1), (lock, 0), (1, 1)),)), False)

    def test_basins_that_do_not_hang_together(self):
        for thing in [((), ()), (((0, 0), (0, 1)), ()), ((), ((0, 0), (0, 1))), (((0, 0),), ((0, 1),), ()),
                      (((0, 0),), ((0, 1),), ((1, 0),), ((1, 1),)), (((0, 0), (0, 1)), ((1, 0), (1, 1)))]:
            self.assertIs(is_map(thing), False)

    def test_lists_for_tuples(self):
        for chart in BY_HAND:
            self.assertIs(is_map(listed(chart)), False)
            self.assertIs(is_map(list(chart)), False)
            self.assertIs(is_map(tuple(list(basin) for basin in chart)), False)
            if locks_in(chart):
                self.assertIs(is_map(tuple(tuple(list(end) for end in basin) for basin in chart)), False)

    def test_beyond_the_bounds(self):
        chart = some_flat(random.Random(510), 12, 30)
        self.assertIs(is_map(chart), True)
        self.assertIs(is_map(chart + ((),)), False)


def exact_text(thing):
    return repr(exact(thing))


class Faces(Case):
    def test_as_their_first_ends_stand_each_from_its_first_one_on(self):
        for chart in all_maps():
            with self.subTest(chart):
                for make in (tupled, listed, mixed):
                    self.same(faces(make(chart)), faces_in(chart))

    def test_each_end_is_in_just_one(self):
        for chart in all_maps():
            told = [end for face in faces(chart) for end in face]
            self.assertEqual(sorted(told), sorted(end for basin in chart for end in basin))
            firsts = [face[0] for face in faces(chart) if face]
            order = [end for basin in chart for end in basin]
            self.assertEqual(firsts, sorted(firsts, key=order.index))

    def test_by_hand(self):
        self.same(faces(ONE_BASIN), [[]])
        self.same(faces(ONE_LOCK), [[(0, 0), (0, 1)]])
        self.same(faces(LOOP), [[(0, 0)], [(0, 1)]])
        self.same(faces(TWO_LOOPS), [[(0, 0), (1, 0)], [(0, 1)], [(1, 1)]])
        self.same(faces(NESTED), [[(0, 0)], [(1, 0), (0, 1)], [(1, 1)]])
        self.same(faces(CROSSED), [[(0, 0), (1, 1), (0, 1), (1, 0)]])
        self.same(faces(PAIR), [[(0, 0), (1, 1)], [(1, 0), (0, 1)]])
        self.same(faces((((1, 1), (0, 0)), ((0, 1), (1, 0)))), [[(1, 1), (0, 1)], [(0, 0), (1, 0)]])
        self.same(faces(THREE), [[(0, 0), (2, 1)], [(1, 0), (0, 1)], [(2, 0), (1, 1)]])
        self.same(faces(TWISTED), [[(0, 0), (1, 1), (2, 0), (0, 1), (1, 0), (2, 1)]])
        self.same([len(face) for face in faces(HUB)], [3, 3, 3, 3])

    def test_rings(self):
        for many in range(1, 9):
            self.same([len(face) for face in faces(round_of(many))], [many, many])


class IsFlat(Case):
    def test_flat_ones(self):
        for chart in flat_maps():
            with self.subTest(chart):
                for make in (tupled, listed, mixed):
                    self.assertIs(is_flat(make(chart)), True)

    def test_whether_basins_and_faces_are_two_more_than_locks(self):
        seen = {True: 0, False: 0}
        for chart in all_maps():
            flat = len(chart) + len(faces_in(chart)) - locks_in(chart) == 2
            seen[flat] += 1
            self.assertIs(is_flat(chart), flat)
        self.assertGreater(min(seen.values()), 20)

    def test_locks_that_cross(self):
        self.assertIs(is_flat(CROSSED), False)
        self.assertIs(is_flat(TWISTED), False)
        self.assertIs(is_flat(TWO_LOOPS), True)
        self.assertIs(is_flat(NESTED), True)
        self.assertIs(is_flat(ONE_BASIN), True)


class CanalOf(Case):
    def test_of_all(self):
        for chart in all_maps():
            with self.subTest(chart):
                for make in (tupled, listed, mixed):
                    self.same(canal_of(make(chart)), canal_in_chart(chart))
                self.assertIs(is_canal(canal_of(chart)), True)

    def test_by_hand(self):
        self.same(canal_of(ONE_BASIN), (1, 1, ()))
        self.same(canal_of(ONE_LOCK), (2, 1, ((0, 1, 0, 0),)))
        self.same(canal_of(LOOP), (1, 2, ((0, 0, 1, 0),)))
        self.same(canal_of(TWO_LOOPS), (1, 3, ((0, 0, 1, 0), (0, 0, 2, 0))))
        self.same(canal_of(NESTED), (1, 3, ((0, 0, 1, 0), (0, 0, 2, 1))))
        self.same(canal_of(CROSSED), (1, 1, ((0, 0, 0, 0), (0, 0, 0, 0))))
        self.same(canal_of(PAIR), (2, 2, ((0, 1, 1, 0), (0, 1, 0, 1))))
        self.same(canal_of((((0, 1),), ((0, 0),))), (2, 1, ((1, 0, 0, 0),)))
        self.same(canal_of(HUB)[:2], (4, 4))


class Trees(Case):
    def test_looked_at_one_by_one(self):
        chance = random.Random(520)
        for canal in all_canals() + [large_canal(chance) for _ in range(10)] + [canal_of(chart) for chart in all_maps()]:
            with self.subTest(canal):
                for make in (tupled, listed, mixed):
                    self.same(trees(make(canal)), trees_in(canal))

    def test_by_hand(self):
        self.same(trees(BARE), 1)
        self.same(trees((1, 5, ())), 1)
        self.same(trees((1, 2, ((0, 0, 0, 1), (0, 0, 1, 1)))), 1)
        self.same(trees((2, 1, ())), 0)
        self.same(trees((3, 1, ((0, 1, 0, 0), (1, 0, 0, 0)))), 0)
        self.same(trees(beside(RING, RING)), 0)
        self.same(trees(BESIDE), 3)
        self.same(trees(LOOPS), 1)
        self.same(trees(FOUR), 16)
        self.same(trees(canal_of(HUB)), 16)
        for many in range(1, 10):
            self.same(trees(ring_of(many)), many)
            self.same(trees(canal_of(round_of(many))), many)
        self.same(trees((2, 1, ((0, 1, 0, 0),) * 10)), 10)
        self.same(trees((1, 1, ((0, 0, 0, 0),) * 10)), 1)
        # Each two of five joined: five times five times five.
        self.same(trees((5, 1, tuple((a, c, 0, 0) for c in range(5) for a in range(c)))), 125)

    def test_somewhat_beyond_the_bounds(self):
        self.same(trees((12, 1, tuple((a, c, 0, 0) for c in range(12) for a in range(c)))), 12 ** 10)


class FlatOnes(Case):
    def test_measures_and_trees(self):
        for chart in flat_maps():
            canal = canal_of(chart)
            with self.subTest(chart):
                told = 1
                for measure in measures(canal):
                    told *= measure or 1
                self.same(told, trees(canal))
                self.same(measures(canal).count(0), 2)
                self.same(sure(canal), list(range(len(canal[2]))))
                self.same(trees(exchanged(canal)), trees(canal))

    def test_by_hand(self):
        self.same(measures(canal_of(HUB)), [4, 4, 0, 0])
        self.same(measures(canal_of(ONE_BASIN)), [0, 0])
        self.same(measures(canal_of(round_of(6))), [6, 0, 0])
        self.same(measures(canal_of(THREE)), [3, 0, 0])

    def test_not_so_of_one_that_is_not_flat(self):
        self.same(measures(canal_of(CROSSED)), [0, 0])
        self.same(sure(canal_of(CROSSED)), [])
        self.same(trees(canal_of(TWISTED)), 3)
        self.same(trees(exchanged(canal_of(TWISTED))), 1)
