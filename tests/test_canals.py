from crosslocks.canals import exchanged, exchanged_standing, is_canal, is_standing, pieces, together
from tests.samples import (
    BARE, CANALS, DEEP, DEEPEST, FULL, LOOPS, ODD, RING, WIDE, Case, deep, listed, many_canals, many_standings, mixed,
    spoilt, tupled)


class IsCanal(Case):
    def test_canals(self):
        for canal in many_canals():
            with self.subTest(canal):
                self.assertIs(is_canal(canal), True)

    def test_without_locks(self):
        for reds in (1, 2, 8):
            for blues in (1, 2, 8):
                self.assertIs(is_canal((reds, blues, ())), True)

    def test_lock_from_a_basin_to_itself(self):
        self.assertIs(is_canal((1, 1, ((0, 0, 0, 0),))), True)
        self.assertIs(is_canal((3, 2, ((2, 2, 0, 1), (0, 1, 1, 1), (2, 2, 1, 1)))), True)

    def test_the_same_lock_twice(self):
        self.assertIs(is_canal((2, 2, ((0, 1, 1, 0),) * 2)), True)

    def test_basins_below_the_least(self):
        for reds, blues in ((0, 1), (1, 0), (0, 0), (-1, 1), (1, -1), (-5, -5), (0, -1)):
            with self.subTest((reds, blues)):
                self.assertIs(is_canal((reds, blues, ())), False)

    def test_lock_of_the_last_basin_and_beyond(self):
        for reds in range(1, 5):
            for blues in range(1, 5):
                for at in range(4):
                    for basin in range(-2, 6):
                        lock = (0,) * at + (basin,) + (0,) * (3 - at)
                        there = 0 <= basin < (reds if at < 2 else blues)
                        with self.subTest((reds, blues, lock)):
                            self.assertIs(is_canal((reds, blues, (lock,))), there)
                            self.assertIs(is_canal((reds, blues, ((0, 0, 0, 0), lock))), there)
                            self.assertIs(is_canal((reds, blues, (lock, (0, 0, 0, 0)))), there)

    def test_true_and_false_are_no_numbers(self):
        for thing in ((True, 1, ()), (1, True, ()), (2, 2, ((True, 0, 0, 0),)), (2, 2, ((0, True, 0, 0),)),
                      (2, 2, ((0, 0, True, 0),)), (2, 2, ((0, 0, 0, True),)), (2, 2, ((False, 0, 0, 0),)),
                      (2, 2, ((0, False, 0, 0),)), (2, 2, ((0, 0, False, 0),)), (2, 2, ((0, 0, 0, False),))):
            with self.subTest(thing):
                self.assertIs(is_canal(thing), False)

    def test_lists_for_tuples(self):
        for thing in ([1, 1, ()], (1, 1, []), [1, 1, []], (1, 1, ([0, 0, 0, 0],)), (1, 1, [(0, 0, 0, 0)]),
                      [1, 1, ((0, 0, 0, 0),)], (1, 1, ((0, 0, 0, 0), [0, 0, 0, 0]))):
            with self.subTest(thing):
                self.assertIs(is_canal(thing), False)
        for canal in CANALS:
            self.assertIs(is_canal(listed(canal)), False)
            self.assertIs(is_canal(tupled(listed(canal))), True)

    def test_things_more_or_fewer(self):
        lock = (0, 0, 0, 0)
        for thing in ((), (1,), (1, 1), (1, 1, (), ()), (1, 1, 1, ()), (1, 1, lock), (1, 1, ((),)), (1, 1, (lock[:3],)),
                      (1, 1, (lock + (0,),)), (1, 1, (lock, lock[:2])), (1, 1, (lock, ())), ((1, 1, ()),)):
            with self.subTest(thing):
                self.assertIs(is_canal(thing), False)

    def test_texts(self):
        for thing in ("", "11", "110", ("1", 1, ()), (1, "1", ()), (1, 1, ""), (1, 1, "0000"), (1, 1, ("0000",)),
                      (1, 1, (("0", 0, 0, 0),)), (1, 1, ((0, 0, 0, "0"),)), (1, 1, "red")):
            with self.subTest(thing):
                self.assertIs(is_canal(thing), False)

    def test_odd_things(self):
        for thing in ODD:
            with self.subTest(thing):
                self.assertIs(is_canal(thing), False)

    def test_deep_things(self):
        for thing in DEEPEST:
            self.assertIs(is_canal(thing), False)
        for thing in DEEP:
            for asked in (thing, (thing, 1, ()), (1, thing, ())):
                with self.subTest(asked):
                    self.assertIs(is_canal(asked), False)
        self.assertIs(is_canal((1, 1, deep(7, 0, [tuple]))), False)

    def test_one_part_wrong(self):
        for canal in CANALS:
            for thing in spoilt(canal):
                with self.subTest(thing):
                    self.assertIs(is_canal(thing), False)

    def test_no_bounds(self):
        self.assertIs(is_canal((9, 20, ((0, 8, 19, 0),) * 30)), True)
        self.assertIs(is_canal((10 ** 12, 10 ** 30, ((10 ** 12 - 1, 0, 10 ** 30 - 1, 0),))), True)
        self.assertIs(is_canal((10 ** 12, 10 ** 30, ((10 ** 12, 0, 0, 0),))), False)


class IsStanding(Case):
    def test_standings(self):
        for canal, standing in many_standings():
            for handed in (canal, listed(canal), mixed(canal)):
                with self.subTest((handed, standing)):
                    self.assertIs(is_standing(handed, standing), True)

    def test_without_locks(self):
        self.assertIs(is_standing(BARE, ((0,), (0,), ())), True)
        self.assertIs(is_standing([1, 1, []], ((5,), (0,), ())), True)
        self.assertIs(is_standing(BARE, ((0,), (0,), (0,))), False)

    def test_boats(self):
        for boats, right in ((-(10 ** 12), False), (-1, False), (0, True), (1, True), (2, True), (10 ** 12, True),
                             (10 ** 12 + 1, True), (10 ** 40, True)):
            for at in range(3):
                row = (0,) * at + (boats,) + (0,) * (2 - at)
                with self.subTest(row):
                    self.assertIs(is_standing(RING, (row, (0, 0, 0), (0, 0, 0))), right)
                    self.assertIs(is_standing(RING, ((0, 0, 0), row, (0, 0, 0))), right)

    def test_locks_stand_0_or_1(self):
        for stand, right in ((-1, False), (0, True), (1, True), (2, False), (10 ** 12, False)):
            for at in range(3):
                row = (1,) * at + (stand,) + (0,) * (2 - at)
                with self.subTest(row):
                    self.assertIs(is_standing(RING, ((0, 0, 0), (0, 0, 0), row)), right)

    def test_true_and_false_are_no_numbers(self):
        for wrong in (True, False):
            for at in range(3):
                row = (0,) * at + (wrong,) + (0,) * (2 - at)
                for place in range(3):
                    thing = ((0, 0, 0),) * place + (row,) + ((0, 0, 0),) * (2 - place)
                    with self.subTest(thing):
                        self.assertIs(is_standing(RING, thing), False)

    def test_lists_for_tuples(self):
        for canal, standing in many_standings(20):
            reds, blues, stands = standing
            for thing in (listed(standing), list(standing), (list(reds), blues, stands), (reds, list(blues), stands),
                          (reds, blues, list(stands))):
                for handed in (canal, listed(canal)):
                    with self.subTest((handed, thing)):
                        self.assertIs(is_standing(handed, thing), False)

    def test_things_more_or_fewer(self):
        reds, blues, stands = (0, 1), (2,), (0, 1, 1)
        self.assertIs(is_standing(LOOPS, (reds, blues, stands)), True)
        for thing in ((), (reds,), (reds, blues), (reds, blues, stands, ()), (reds, blues, stands, stands),
                      (reds + (0,), blues, stands), (reds[:1], blues, stands), ((), blues, stands),
                      (reds, blues + (0,), stands), (reds, (), stands), (reds, blues, stands + (0,)),
                      (reds, blues, stands[:2]), (reds, blues, ()), (blues, reds, stands), reds + blues + stands):
            with self.subTest(thing):
                self.assertIs(is_standing(LOOPS, thing), False)

    def test_standings_of_another_canal(self):
        standings = many_standings(15)
        for canal, _ in standings:
            for other, standing in standings:
                fits = canal[:2] == other[:2] and len(canal[2]) == len(other[2])
                with self.subTest((canal, standing)):
                    self.assertIs(is_standing(canal, standing), fits)

    def test_texts(self):
        for thing in ("", "abc", ("0", "0", ""), (("0",), (0,), ()), ((0,), ("0",), ()), ((0,), (0,), ""), ("a", (0,), ())):
            with self.subTest(thing):
                self.assertIs(is_standing(BARE, thing), False)
        self.assertIs(is_standing(LOOPS, ((0, 0), (0,), "010")), False)
        self.assertIs(is_standing(LOOPS, ("00", "0", "000")), False)

    def test_odd_and_deep_things(self):
        for canal in (BARE, LOOPS, WIDE, [1, 1, []]):
            for thing in ODD + DEEP + DEEPEST:
                with self.subTest((canal, thing)):
                    self.assertIs(is_standing(canal, thing), False)
        for thing in DEEP:
            for asked in ((thing, (0,), ()), ((0,), thing, ()), ((0,), (0,), thing)):
                if asked[0] != (1,) and asked[1] != (1,):
                    with self.subTest(asked):
                        self.assertIs(is_standing(BARE, asked), False)

    def test_one_part_wrong(self):
        for canal, standing in many_standings(10):
            for thing in spoilt(standing):
                with self.subTest((canal, thing)):
                    self.assertIs(is_standing(canal, thing), False)

    def test_no_bounds(self):
        canal = (9, 20, ((0, 8, 19, 0),) * 30)
        self.assertIs(is_standing(canal, ((1,) * 9, (10 ** 13,) * 20, (1,) * 30)), True)
        self.assertIs(is_standing(canal, ((1,) * 9, (10 ** 13,) * 20, (1,) * 29)), False)


class Exchanged(Case):
    def test_what_it_tells(self):
        self.same(exchanged((4, 2, ((0, 2, 1, 0), (3, 3, 0, 1)))), (2, 4, ((1, 0, 0, 2), (0, 1, 3, 3))))
        self.same(exchanged((2, 5, ())), (5, 2, ()))
        self.same(exchanged((3, 4, ((0, 1, 2, 3), (1, 2, 0, 0)))), (4, 3, ((2, 3, 0, 1), (0, 0, 1, 2))))

    def test_twice_is_the_very_one(self):
        for canal in many_canals():
            with self.subTest(canal):
                self.same(exchanged(exchanged(canal)), canal)
                self.assertIs(is_canal(exchanged(canal)), True)

    def test_of_lists_tuples(self):
        for canal in CANALS:
            with self.subTest(canal):
                self.same(exchanged(listed(canal)), exchanged(canal))
                self.same(exchanged(exchanged(mixed(canal))), canal)


class ExchangedStanding(Case):
    def test_what_it_tells(self):
        self.same(exchanged_standing(((1, 2), (3, 4, 5), (0, 1, 1, 0))), ((3, 4, 5), (1, 2), (0, 1, 1, 0)))
        self.same(exchanged_standing(((7,), (10 ** 12,), ())), ((10 ** 12,), (7,), ()))

    def test_it_stands_in_the_exchanged_canal(self):
        for canal, standing in many_standings():
            with self.subTest((canal, standing)):
                self.assertIs(is_standing(exchanged(canal), exchanged_standing(standing)), True)
                self.same(exchanged_standing(exchanged_standing(standing)), standing)

    def test_of_lists_tuples(self):
        for canal, standing in many_standings(10):
            with self.subTest(standing):
                self.same(exchanged_standing(listed(standing)), exchanged_standing(standing))
                self.same(exchanged_standing(exchanged_standing(mixed(standing))), standing)


class Together(Case):
    def test_what_it_tells(self):
        self.same(
            together((2, 3, ((0, 1, 2, 0),)), (3, 2, ((0, 2, 1, 0), (1, 1, 0, 0)))),
            (5, 5, ((0, 1, 2, 0), (2, 4, 4, 3), (3, 3, 3, 3))))
        self.same(
            together((3, 2, ((0, 2, 1, 0), (1, 1, 0, 0))), (2, 3, ((0, 1, 2, 0),))),
            (5, 5, ((0, 2, 1, 0), (1, 1, 0, 0), (3, 4, 4, 2))))

    def test_without_locks(self):
        self.same(together((1, 2, ()), (3, 4, ())), (4, 6, ()))
        self.same(together((1, 2, ()), (1, 1, ((0, 0, 0, 0),))), (2, 3, ((1, 1, 2, 2),)))
        self.same(together((1, 1, ((0, 0, 0, 0),)), (1, 2, ())), (2, 3, ((0, 0, 0, 0),)))

    def test_with_itself(self):
        self.same(together(BARE, BARE), (2, 2, ()))
        self.same(together((1, 2, ((0, 0, 0, 1),)), (1, 2, ((0, 0, 0, 1),))), (2, 4, ((0, 0, 0, 1), (1, 1, 2, 3))))

    def test_three_either_way_about(self):
        canals = many_canals(20)
        for one, two, three in zip(canals, canals[1:], canals[2:]):
            with self.subTest((one, two, three)):
                told = together(together(one, two), three)
                self.same(told, together(one, together(two, three)))
                self.assertIs(is_canal(told), True)
                self.same(told[:2], (one[0] + two[0] + three[0], one[1] + two[1] + three[1]))
                self.same(len(told[2]), len(one[2]) + len(two[2]) + len(three[2]))

    def test_exchanged_both_and_then_together(self):
        canals = many_canals(20)
        for one, other in zip(canals, canals[1:]):
            with self.subTest((one, other)):
                self.same(exchanged(together(one, other)), together(exchanged(one), exchanged(other)))

    def test_of_lists_tuples(self):
        for one in CANALS:
            for other in CANALS:
                wanted = together(one, other)
                for make in (listed, mixed):
                    with self.subTest((one, other)):
                        self.same(together(make(one), make(other)), wanted)
                        self.same(together(one, make(other)), wanted)
                        self.same(together(make(one), other), wanted)


def hanging(many, joins):
    """Which basins hang together, by going from each as far as it goes."""
    found = set()
    for basin in range(many):
        reached, fresh = {basin}, [basin]
        while fresh:
            here = fresh.pop()
            for start, end in joins + [(end, start) for start, end in joins]:
                if start == here and end not in reached:
                    reached.add(end)
                    fresh.append(end)
        found.add(tuple(sorted(reached)))
    return sorted(found)


class Pieces(Case):
    def test_of_each_water(self):
        self.same(pieces(WIDE, "red"), [(0, 2), (1,), (3,)])
        self.same(pieces(WIDE, "blue"), [(0, 1)])
        self.same(pieces(LOOPS, "red"), [(0, 1)])
        self.same(pieces(LOOPS, "blue"), [(0,)])
        self.same(pieces(FULL, "red"), [(0, 1, 2, 3, 4, 5, 6, 7)])

    def test_basins_without_locks_by_themselves(self):
        self.same(pieces((3, 2, ()), "red"), [(0,), (1,), (2,)])
        self.same(pieces((3, 2, ()), "blue"), [(0,), (1,)])
        self.same(pieces(BARE, "blue"), [(0,)])

    def test_a_lock_to_the_same_basin_joins_nothing(self):
        self.same(pieces((2, 2, ((1, 1, 0, 0),)), "red"), [(0,), (1,)])
        self.same(pieces((2, 2, ((1, 1, 0, 0),)), "blue"), [(0,), (1,)])

    def test_rising_whichever_way_locks_lead(self):
        canal = (6, 5, ((5, 3, 4, 3), (4, 1, 3, 2), (3, 0, 2, 1), (1, 4, 1, 0)))
        self.same(pieces(canal, "red"), [(0, 3, 5), (1, 4), (2,)])
        self.same(pieces(canal, "blue"), [(0, 1, 2, 3, 4)])

    def test_pieces_that_join_late(self):
        locks = ((0, 1, 6, 7), (2, 3, 4, 5), (4, 5, 2, 3), (6, 7, 0, 1), (1, 2, 5, 6), (5, 6, 1, 2))
        self.same(pieces((8, 8, locks), "red"), [(0, 1, 2, 3), (4, 5, 6, 7)])
        self.same(pieces((8, 8, locks), "blue"), [(0, 1, 2, 3), (4, 5, 6, 7)])
        self.same(pieces((8, 8, locks + ((7, 0, 3, 4),)), "red"), [(0, 1, 2, 3, 4, 5, 6, 7)])
        self.same(pieces((8, 8, locks + ((7, 0, 3, 4),)), "blue"), [(0, 1, 2, 3, 4, 5, 6, 7)])

    def test_as_by_going_from_each_basin(self):
        for canal in many_canals():
            reds = hanging(canal[0], [lock[:2] for lock in canal[2]])
            blues = hanging(canal[1], [lock[2:] for lock in canal[2]])
            for handed in (canal, listed(canal), mixed(canal)):
                with self.subTest(handed):
                    self.same(pieces(handed, "red"), reds)
                    self.same(pieces(handed, "blue"), blues)
                    self.same(pieces(exchanged(handed), "blue"), reds)
