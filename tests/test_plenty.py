import random

from crosslocks.counts import counts, rounds
from crosslocks.errors import Loose, NoBoat, NoCounts
from crosslocks.goings import gone_all
from crosslocks.plenty import fewest, how_many, is_enough, plain_row, wanted
from tests.apart import (
    BESIDE, FOUR, KINDS, TWICE, all_canals, changed, fits, is_sure, large_canal, moved, ring_of, small_canals,
    some_ends, some_pair)
from tests.samples import FULL, LOOPS, RING, Case, listed, mixed, some_standing, tupled
from tests.through import behind, plain_goings, rows_to_all, shortest_with, went_in

ONE_LOCK = (2, 2, ((0, 1, 0, 1),))
TWO_LOCKS = (3, 3, ((0, 1, 0, 1), (1, 2, 1, 2)))
PLENTY = 50


def some_counts(seed, most=4, many=20):
    """Canals, two standings with plenty of boats, and COUNTS of them."""
    chance = random.Random(seed)
    for canal in all_canals(many):
        one = ((PLENTY,) * canal[0], (PLENTY,) * canal[1], some_standing(chance, canal)[2])
        numbers = [chance.randint(-most, most) for _ in canal[2]]
        yield canal, one, moved(canal, one, numbers, some_standing(chance, canal)[2]), numbers


def with_boats(standing, boats):
    return boats[0], boats[1], standing[2]


def every_way(call, *handed):
    """What is told of the arguments as they are, as lists and as tuples."""
    return [call(*handed), call(*map(listed, handed)), call(*map(tupled, handed)), call(*map(mixed, handed))]


class PlainRow(Case):
    def test_lock_by_lock_by_turns(self):
        for canal, one, other, numbers in some_counts(200):
            row = plain_goings(one, other, numbers)
            with self.subTest((canal, one, other, numbers)):
                for told in every_way(plain_row, canal, one, other, numbers):
                    self.same(told, row)

    def test_one_lock_by_hand(self):
        red, blue = (0, "red"), (0, "blue")
        for first, last, number, row in [
                (0, 0, 0, []), (1, 1, 0, []), (0, 1, 0, [blue]), (1, 0, 0, [blue]), (0, 1, 1, [red]), (1, 0, -1, [red]),
                (0, 0, 1, [red, blue]), (1, 1, 1, [blue, red]), (0, 0, -1, [blue, red]), (1, 1, -1, [red, blue]),
                (0, 1, 3, [red, blue, red, blue, red]), (0, 1, -2, [blue, red, blue, red, blue]),
                (1, 0, 2, [blue, red, blue, red, blue]), (1, 0, -3, [red, blue, red, blue, red]),
                (0, 0, 2, [red, blue, red, blue]), (1, 1, -2, [red, blue, red, blue])]:
            one = (9, 9), (9, 9), (first,)
            other = moved(ONE_LOCK, one, [number], (last,))
            with self.subTest((first, last, number)):
                self.assertTrue(fits(ONE_LOCK, one, other, [number]))
                self.same(plain_row(ONE_LOCK, one, other, [number]), row)

    def test_several_locks_by_hand(self):
        one = (5, 5, 5), (5, 5, 5), (0, 1)
        self.same(
            plain_row(TWO_LOCKS, one, moved(TWO_LOCKS, one, [1, 1], (0, 1)), [1, 1]),
            [(0, "red"), (0, "blue"), (1, "blue"), (1, "red")])
        self.same(
            plain_row(TWO_LOCKS, one, moved(TWO_LOCKS, one, [0, -1], (1, 0)), [0, -1]), [(0, "blue"), (1, "red")])
        self.same(plain_row(TWO_LOCKS, one, moved(TWO_LOCKS, one, [0, -1], (0, 0)), [0, -1]), [(1, "red")])

    def test_bare_where_nothing_went(self):
        for canal, one, other, numbers in some_counts(201):
            self.same(plain_row(canal, one, one, [0] * len(canal[2])), [])
            self.same(how_many(canal, one, one, [0] * len(canal[2])), 0)
        self.same(plain_row((1, 1, ()), ((0,), (0,), ()), ((0,), (0,), ()), []), [])

    def test_it_leads_there_and_goes_by_the_counts(self):
        for canal, one, other, numbers in some_counts(202, 3):
            row = plain_row(canal, one, other, numbers)
            with self.subTest((canal, one, other, numbers)):
                self.same(behind(canal, one, row), other)
                self.same(gone_all(canal, one, row), other)
                self.same(went_in(canal, one, row)[0], numbers)

    def test_with_a_round_put_to_the_counts(self):
        seen = 0
        for canal, one, other, numbers in some_counts(203, 1):
            for turn in rounds(canal):
                more = [number + step for number, step in zip(numbers, turn)]
                row = plain_row(canal, one, other, more)
                with self.subTest((canal, one, other, more)):
                    self.same(row, plain_goings(one, other, more))
                    self.same(behind(canal, one, row), other)
                    self.same(went_in(canal, one, row)[0], more)
                    self.same(how_many(canal, one, other, more), len(row))
                    seen += more != numbers
        self.assertGreater(seen, 50)

    def test_rows_of_four_hundred(self):
        chance = random.Random(204)
        for canal in (FULL, large_canal(chance), exactly_ten()):
            one = ((10 ** 11,) * 8, (10 ** 11,) * 8, (0, 1) * 5)
            numbers = [20, -20] * 5
            other = moved(canal, one, numbers, one[2])
            row = plain_row(canal, one, other, numbers)
            self.same(len(row), 400)
            self.same(row, plain_goings(one, other, numbers))
            self.same(gone_all(canal, one, row), other)
            self.same(len(plain_row(canal, one, moved(canal, one, [50] * 10, one[2]), [50] * 10)), 1000)


def exactly_ten():
    return 8, 8, tuple((at % 8, (at + 1) % 8, at % 8, (at + 3) % 8) for at in range(10))


class HowMany(Case):
    def test_as_many_as_the_plain_row_has(self):
        for canal, one, other, numbers in some_counts(210):
            for told in every_way(how_many, canal, one, other, numbers):
                self.same(told, len(plain_goings(one, other, numbers)))

    def test_no_row_with_these_counts_is_shorter(self):
        chance = random.Random(211)
        seen = 0
        for canal in small_canals(20):
            one, other, reds, blues = some_ends(chance, canal, 5)
            many = how_many(canal, one, other, reds)
            if many <= 5 and len(canal[2]) <= 5:
                found = shortest_with(canal, one, other, reds, 5)
                with self.subTest((canal, one, other, reds)):
                    self.assertLessEqual(many, found)
                    if is_enough(canal, one, other, reds):
                        self.assertEqual(many, found)
                        seen += 1
        self.assertGreater(seen, 20)

    def test_numbers_that_nobody_goes_through(self):
        most = 10 ** 12
        for first, last, number, many in [
                (0, 0, most, 2 * most), (0, 1, most, 2 * most - 1), (1, 0, most, 2 * most + 1), (1, 1, -most, 2 * most),
                (0, 1, -most, 2 * most + 1), (1, 0, -most, 2 * most - 1)]:
            one = (most, most), (most, most), (first,)
            other = moved(ONE_LOCK, one, [number], (last,))
            self.same(how_many(ONE_LOCK, one, other, [number]), many)
        one = (most,) * 8, (most,) * 8, (0, 1) * 5
        other = moved(FULL, one, [most] * 10, one[2])
        self.same(how_many(FULL, one, other, [most] * 10), 20 * most)


class Wanted(Case):
    def test_just_as_many_and_one_fewer(self):
        for canal, one, other, numbers in some_counts(220):
            row = plain_goings(one, other, numbers)
            boats = wanted(canal, one, other, numbers)
            with self.subTest((canal, one, other, numbers, boats)):
                for told in every_way(wanted, canal, one, other, numbers):
                    self.same(told, boats)
                self.same((type(boats), type(boats[0]), type(boats[1])), (tuple, tuple, tuple))
                self.same((len(boats[0]), len(boats[1])), canal[:2])
                self.assertIsNot(behind(canal, with_boats(one, boats), row), None)
                gone_all(canal, with_boats(one, boats), row)
                for water in (0, 1):
                    for basin, many in enumerate(boats[water]):
                        self.assertGreaterEqual(many, 0)
                        if many:
                            fewer = changed(with_boats(one, boats), water, basin, -1)
                            self.assertIs(behind(canal, fewer, row), None)
                            with self.assertRaises(NoBoat):
                                gone_all(canal, fewer, row)

    def test_whatever_lay_there(self):
        chance = random.Random(221)
        for canal, one, other, numbers in some_counts(222):
            boats = wanted(canal, one, other, numbers)
            for _ in range(3):
                first = with_boats(one, some_standing(chance, canal, 30))
                last = moved(canal, first, numbers, other[2])
                self.same(wanted(canal, first, last, numbers), boats)

    def test_by_hand(self):
        def told(canal, first, last, numbers):
            one = (9,) * canal[0], (9,) * canal[1], first
            return wanted(canal, one, moved(canal, one, numbers, last), numbers)

        self.same(told(ONE_LOCK, (0,), (0,), [0]), ((0, 0), (0, 0)))
        self.same(told(ONE_LOCK, (0,), (1,), [3]), ((3, 0), (0, 2)))
        self.same(told(ONE_LOCK, (1,), (0,), [3]), ((3, 0), (0, 4)))
        self.same(told(ONE_LOCK, (0,), (0,), [-3]), ((0, 3), (3, 0)))
        # What came by a lock ahead may go on by the next one.
        self.same(told(TWO_LOCKS, (0, 0), (1, 1), [1, 1]), ((1, 0, 0), (0, 0, 0)))
        self.same(told(TWO_LOCKS, (0, 0), (1, 0), [1, 3]), ((1, 2, 0), (0, 0, 3)))
        self.same(told(TWO_LOCKS, (1, 1), (0, 0), [-1, -1]), ((0, 1, 1), (0, 0, 0)))
        # By locks from a basin to itself one boat goes as often as it likes.
        self.same(told((1, 2, ((0, 0, 0, 1), (0, 0, 1, 1))), (0, 0), (0, 0), [4, 4]), ((1,), (0, 5)))
        self.same(told((1, 2, ((0, 0, 0, 0), (0, 0, 1, 1))), (0, 0), (1, 0), [0, 0]), ((0,), (1, 0)))
        # It's wanted at first where a lock behind takes it, though it comes back at last.
        self.same(told((2, 1, ((0, 1, 0, 0), (0, 1, 0, 0))), (0, 0), (0, 0), [2, -2]), ((2, 0), (1,)))
        self.same(told((2, 1, ((0, 1, 0, 0), (0, 1, 0, 0))), (0, 0), (0, 0), [-2, 2]), ((0, 2), (1,)))

    def test_a_boat_that_goes_from_a_basin_to_itself_behind_others(self):
        canal = (2, 1, ((0, 1, 0, 0), (0, 0, 0, 0)))
        one = (9, 9), (9,), (0, 0)
        self.same(wanted(canal, one, moved(canal, one, [3, 5], (0, 0)), [3, 5]), ((4, 0), (1,)))
        self.same(wanted(canal, one, moved(canal, one, [-3, 5], (0, 0)), [-3, 5]), ((0, 3), (1,)))

    def test_numbers_that_nobody_goes_through(self):
        many = 10 ** 11
        for canal, one, other, numbers in some_counts(223):
            if any(a == c or x == y for a, c, x, y in canal[2]):
                continue
            small = wanted(canal, one, moved(canal, one, numbers, one[2]), numbers)
            great = [many * number for number in numbers]
            rich = (10 ** 12,) * canal[0], (10 ** 12,) * canal[1], one[2]
            told = wanted(canal, rich, moved(canal, rich, great, one[2]), great)
            self.same(told, tuple(tuple(many * boats for boats in part) for part in small))

    def test_at_the_bounds(self):
        most = 10 ** 12
        one = (most, 0), (0, most), (0,)
        other = (0, most), (most - 1, 1), (1,)
        self.same(wanted(ONE_LOCK, one, other, [most]), ((most, 0), (0, most - 1)))
        self.same(is_enough(ONE_LOCK, one, other, [most]), True)
        self.same(is_enough(ONE_LOCK, changed(one, 0, 0, -1), changed(other, 0, 1, -1), [most]), False)
        self.same(is_enough(ONE_LOCK, changed(one, 1, 1, -1), changed(other, 1, 0, -1), [most]), True)
        self.same(is_enough(ONE_LOCK, changed(one, 1, 1, -2), changed(other, 1, 0, -2), [most]), False)
        loop = (1, 1, ((0, 0, 0, 0),))
        self.same(wanted(loop, ((1,), (1,), (0,)), ((1,), (1,), (0,)), [most]), ((1,), (1,)))
        self.same(is_enough(loop, ((1,), (1,), (0,)), ((1,), (1,), (0,)), [most]), True)
        self.same(is_enough(loop, ((1,), (0,), (0,)), ((1,), (0,), (0,)), [most]), False)


class IsEnough(Case):
    def test_just_where_no_going_is_refused(self):
        chance = random.Random(230)
        seen = {True: 0, False: 0}
        for canal, one, other, numbers in some_counts(231, 2):
            boats = wanted(canal, one, other, numbers)
            near = with_boats(one, [[chance.choice((many, many, many, many + 1, max(0, many - 1))) for many in part] for part in boats])
            for first in (one, with_boats(one, boats), tupled(near)):
                last = moved(canal, first, numbers, other[2])
                goes = behind(canal, first, plain_goings(first, last, numbers)) is not None
                seen[goes] += 1
                with self.subTest((canal, first, last, numbers)):
                    for told in every_way(is_enough, canal, first, last, numbers):
                        self.assertIs(told, goes)
        self.assertGreater(min(seen.values()), 20)

    def test_not_enough_though_another_row_leads_there(self):
        canal = (3, 1, ((1, 2, 0, 0), (0, 1, 0, 0)))
        one, other = ((1, 0, 0), (0,), (0, 0)), ((0, 0, 1), (0,), (1, 1))
        self.same(behind(canal, one, [(1, "red"), (0, "red")]), other)
        self.same(wanted(canal, one, other, [1, 1]), ((1, 1, 0), (0,)))
        self.assertIs(is_enough(canal, one, other, [1, 1]), False)
        self.assertIs(is_enough(canal, changed(one, 0, 1, 1), changed(other, 0, 1, 1), [1, 1]), True)

    def test_one_fewer_of_either_water(self):
        for canal, one, other, numbers in some_counts(232):
            boats = wanted(canal, one, other, numbers)
            just = with_boats(one, boats)
            self.assertIs(is_enough(canal, just, moved(canal, just, numbers, other[2]), numbers), True)
            for water in (0, 1):
                for basin, many in enumerate(boats[water]):
                    if many:
                        fewer = changed(just, water, basin, -1)
                        last = moved(canal, fewer, numbers, other[2])
                        self.assertIs(is_enough(canal, fewer, last, numbers), False)


class Fewest(Case):
    def sure_ones(self):
        return [canal for canal in all_canals(40) if all(is_sure(canal, lock) for lock in range(len(canal[2])))]

    def test_as_many_as_the_plain_row_of_its_counts(self):
        chance = random.Random(240)
        canals = self.sure_ones()
        self.assertGreater(len(canals), 20)
        for canal in canals:
            one, other, reds, blues = some_ends(chance, canal)
            for told in every_way(fewest, canal, one, other):
                self.same(told, len(plain_goings(one, other, reds)))
            one, other, numbers = some_pair(chance, canal)
            self.same(fewest(canal, one, other), how_many(canal, one, other, numbers))
            self.same(fewest(canal, one, one), 0)

    def test_no_row_has_fewer(self):
        chance = random.Random(241)
        seen = 0
        for canal in self.sure_ones():
            one = some_standing(chance, canal, 1)
            found = rows_to_all(canal, one)
            if found is None:
                continue
            for other, row in list(found.items())[:50]:
                with self.subTest((canal, one, other)):
                    self.assertLessEqual(fewest(canal, one, other), len(row))
                    if is_enough(canal, one, other, counts(canal, one, other)):
                        self.same(fewest(canal, one, other), len(row))
                        seen += 1
        self.assertGreater(seen, 40)

    def test_whether_boats_are_there_or_not(self):
        canal = ring_of(3)
        # A boat would have to go around where none lies.
        one, other = ((0, 0, 0), (1, 0), (0, 0, 0)), ((0, 0, 0), (0, 1), (1, 0, 0))
        self.same(fewest(canal, one, other), 1)
        self.same(fewest(canal, ((0, 0, 0), (3, 0), (0, 0, 0)), ((0, 0, 0), (0, 3), (1, 1, 1))), 3)
        self.same(fewest(canal, ((0, 0, 0), (0, 3), (0, 0, 0)), ((0, 0, 0), (3, 0), (0, 0, 0))), 6)
        self.same(is_enough(canal, ((0, 0, 0), (0, 3), (0, 0, 0)), ((0, 0, 0), (3, 0), (0, 0, 0)), [1, 1, 1]), False)
        self.same(fewest((1, 1, ()), ((7,), (8,), ()), ((7,), (8,), ())), 0)

    def test_numbers_that_nobody_goes_through(self):
        most = 10 ** 12
        self.same(fewest(ONE_LOCK, ((most, 0), (0, most), (0,)), ((0, most), (most, 0), (0,))), 2 * most)
        self.same(fewest(FOUR, ((most, 0, 0, 0), (0, 0, most, 0), (0,) * 6), ((0, most, 0, 0), (most, 0, 0, 0), (0,) * 6)), 2 * most)

    def test_the_first_that_is_not_sure(self):
        chance = random.Random(242)
        seen = 0
        for canal in all_canals():
            loose = [lock for lock in range(len(canal[2])) if not is_sure(canal, lock)]
            if not loose:
                continue
            seen += loose[0] > 0
            one, other, reds, blues = some_ends(chance, canal)
            self.refused(Loose, "lock", loose[0], fewest, canal, one, other)
            self.refused(Loose, "lock", loose[0], fewest, listed(canal), listed(one), listed(other))
            # Ahead of NoCounts.
            self.refused(Loose, "lock", loose[0], fewest, canal, one, changed(other, 0, 0, 1))
        self.assertGreater(seen, 10)
        none = (0, 0), (1,), (0, 0, 0)
        self.refused(Loose, "lock", 0, fewest, LOOPS, none, none)
        self.refused(Loose, "lock", 0, fewest, RING, ((1, 1, 1), (0, 0, 0), (0, 0, 0)), ((9, 9, 9), (0, 0, 0), (0, 0, 0)))
        behind_sure = (3, 2, ((0, 1, 0, 0), (1, 2, 0, 1), (2, 2, 1, 1)))
        self.refused(Loose, "lock", 2, fewest, behind_sure, ((0,) * 3, (0,) * 2, (0,) * 3), ((1,) * 3, (0,) * 2, (0,) * 3))

    def test_no_counts(self):
        for canal in (ONE_LOCK, FOUR, ring_of(3), ring_of(8), (1, 1, ())):
            one = (5,) * canal[0], (5,) * canal[1], (0,) * len(canal[2])
            for other in (changed(one, 0, 0, 1), changed(one, 1, canal[1] - 1, -1)):
                with self.assertRaises(NoCounts) as caught:
                    fewest(canal, one, other)
                self.assertIs(type(caught.exception), NoCounts)
        one, other = ((1, 0, 0), (0, 0), (0, 0, 0)), ((0, 1, 0), (0, 0), (0, 0, 0))
        with self.assertRaises(NoCounts):
            fewest(ring_of(3), one, other)

    def test_kinds(self):
        for canal in KINDS + [TWICE, BESIDE]:
            one = some_standing(random.Random(243), canal)
            if all(is_sure(canal, lock) for lock in range(len(canal[2]))):
                self.same(fewest(canal, one, one), 0)
            else:
                with self.assertRaises(Loose):
                    fewest(canal, one, one)
