import copy
import random

from crosslocks.counts import almanac
from crosslocks.errors import NoBasin, NoBoat, NoDeed, NoLock, Short
from crosslocks.keep import Keep
from crosslocks.tolls import paid, step
from tests.apart import KINDS, TWICE, all_canals, large_canal, ring_of
from tests.model import Model, Refused, error_of, some_deed
from tests.samples import BARE, FULL, LOOPS, RING, Case, emptied, exact, listed, mixed, some_standing, tupled
from tests.through import is_multiple, some_tolls

LOCK = (2, 2, ((0, 1, 0, 1),))
STANDING = (2, 0), (1, 0), (0,)


def asks(keep):
    """All that's told of a Keep but its log."""
    return [
        keep.canal(), keep.standing(), keep.deeds(), keep.hands(), keep.went(), keep.almanac(), len(keep), repr(keep),
        keep.paid([(3 * lock + 1, -lock) for lock in range(len(keep))])]


class KeepCase(Case):
    def told_right(self, keep, model):
        """All asks are told as the model tells them."""
        self.same(keep.canal(), model.canal())
        self.same(keep.standing(), model.standing())
        self.same(keep.deeds(), len(model.deeds))
        self.same(keep.hands(), model.hands())
        self.same(keep.went(), model.went())
        self.same(keep.log(), model.log)
        self.same(keep.almanac(), model.almanac())
        self.same(len(keep), len(model.canal()[2]))
        reds, blues, locks = model.canal()
        self.same(repr(keep), f"Keep({reds} red, {blues} blue, {len(locks)} locks)")

    def done_by_both(self, keep, model, word, *handed):
        """The deed is told by both alike, or refused alike."""
        try:
            wanted = model.do(word, *handed)
        except Refused as refusal:
            before = exact(asks(keep))
            self.refused(*error_of(refusal), getattr(keep, word), *handed)
            self.assertEqual(exact(asks(keep)), before)
            return False
        self.same(getattr(keep, word)(*handed), wanted)
        return True

    def told_of_times(self, keep, model, chance):
        for many in {0, chance.randint(0, len(model.deeds)), len(model.deeds)}:
            part, other = keep.as_of(many), model.as_of(many)
            self.told_right(part, other)
            for _ in range(3):
                self.done_by_both(part, other, *some_deed(chance, other))
            for _ in range(2):
                self.done_by_both(part, other, "undo")
            self.told_right(part, other)
        self.told_right(keep, model)
        self.told_right(keep.twin(), model.as_of(len(model.deeds)))

    def refused_and_nothing_changed(self, error, field, worth, keep, word, *handed):
        before, log = exact(asks(keep)), keep.log()
        self.refused(error, field, worth, getattr(keep, word), *handed)
        self.assertEqual(exact(asks(keep)), before)
        self.same(keep.log(), log + [("in", word), ("out", word)])


class Deeds(KeepCase):
    def test_go(self):
        keep = Keep(LOCK, STANDING)
        self.same(keep.go(0, "red"), None)
        self.same(keep.standing(), ((1, 1), (1, 0), (1,)))
        self.same(keep.went(), ([1], [0]))
        self.refused_and_nothing_changed(NoBoat, "going", (0, "blue"), keep, "go", 0, "blue")
        self.same(keep.go(0, "red"), None)
        self.same(keep.go(0, "blue"), None)
        self.same(keep.standing(), ((2, 0), (0, 1), (1,)))
        self.same(keep.went(), ([0], [1]))
        self.same(keep.hands(), ([0, 0], [0, 0], [0]))
        self.same(keep.deeds(), 3)

    def test_go_by_a_lock_that_is_not_there(self):
        for canal, standing in (LOCK, STANDING), (BARE, ((1,), (1,), ())):
            keep = Keep(canal, standing)
            for lock in (len(canal[2]), -1, 10 ** 12, -(10 ** 12)):
                for water in ("red", "blue"):
                    self.refused_and_nothing_changed(NoLock, "lock", lock, keep, "go", lock, water)
        # Ahead of NoBoat.
        empty = Keep(LOCK, ((0, 0), (0, 0), (0,)))
        self.refused_and_nothing_changed(NoLock, "lock", 1, empty, "go", 1, "red")
        self.refused_and_nothing_changed(NoLock, "lock", -1, empty, "go", -1, "red")
        self.refused_and_nothing_changed(NoBoat, "going", (0, "red"), empty, "go", 0, "red")

    def test_row(self):
        keep = Keep(LOCK, STANDING)
        self.same(keep.row([(0, "red"), (0, "red"), (0, "blue"), (0, "blue"), (0, "red")]), None)
        self.same(keep.standing(), ((1, 1), (1, 0), (1,)))
        self.same(keep.deeds(), 1)
        self.same(keep.row([]), None)
        self.same(keep.deeds(), 2)
        self.same(keep.row(([0, "red"],)), None)
        self.same(keep.standing(), STANDING)
        self.same(keep.log(), [("in", "row"), ("out", "row")] * 3)
        self.same(keep.undo(), True)
        self.same(keep.undo(), True)
        self.same(keep.standing(), ((1, 1), (1, 0), (1,)))
        self.same(keep.undo(), True)
        self.same(keep.standing(), STANDING)
        self.same(keep.undo(), False)

    def test_of_row_the_first_that_is_refused_and_none_has_gone(self):
        keep = Keep(LOCK, STANDING)
        red, blue = (0, "red"), (0, "blue")
        for goings, error, field, worth in [
                ([red, blue], NoBoat, "going", blue), ([red, red, red, (0, "blue"), (1, "red")], NoBoat, "going", blue),
                ([red, (1, "red"), blue], NoLock, "lock", 1), ([(-1, "red"), blue], NoLock, "lock", -1),
                ([red, red, (5, "blue"), (6, "blue")], NoLock, "lock", 5), ([red, [0, "blue"]], NoBoat, "going", blue),
                ([blue, blue, red, red, (9, "red")], NoLock, "lock", 9)]:
            with self.subTest(goings):
                self.refused_and_nothing_changed(error, field, worth, keep, "row", goings)
                self.refused_and_nothing_changed(error, field, worth, keep, "row", tupled(goings))

    def test_fill(self):
        keep = Keep(LOCK, STANDING)
        self.same(keep.fill("red", 1, 5), None)
        self.same(keep.fill("blue", 0, 10 ** 12), None)
        self.same(keep.standing(), ((2, 5), (1 + 10 ** 12, 0), (0,)))
        self.same(keep.hands(), ([0, 5], [10 ** 12, 0], [0]))
        for water in ("red", "blue"):
            for basin in (2, -1, 10 ** 12):
                self.refused_and_nothing_changed(NoBasin, "basin", basin, keep, "fill", water, basin, 1)
        uneven = Keep((3, 1, ()), ((0, 0, 0), (0,), ()))
        self.same(uneven.fill("red", 2, 1), None)
        self.refused_and_nothing_changed(NoBasin, "basin", 1, uneven, "fill", "blue", 1, 1)
        self.refused_and_nothing_changed(NoBasin, "basin", 3, uneven, "fill", "red", 3, 1)

    def test_drain(self):
        keep = Keep(LOCK, ((7, 3), (0, 4), (1,)))
        self.same(keep.drain("red", 0, 7), None)
        self.same(keep.drain("blue", 1, 1), None)
        self.same(keep.standing(), ((0, 3), (0, 3), (1,)))
        self.same(keep.hands(), ([-7, 0], [0, -1], [0]))
        self.refused_and_nothing_changed(Short, "many", 1, keep, "drain", "red", 0, 1)
        self.refused_and_nothing_changed(Short, "many", 10 ** 12 - 3, keep, "drain", "red", 1, 10 ** 12)
        self.refused_and_nothing_changed(Short, "many", 1, keep, "drain", "blue", 1, 4)
        self.same(keep.drain("blue", 1, 3), None)
        for water in ("red", "blue"):
            for basin in (2, -1):
                self.refused_and_nothing_changed(NoBasin, "basin", basin, keep, "drain", water, basin, 10 ** 12)

    def test_turn(self):
        keep = Keep(RING, ((0, 0, 0), (0, 0, 0), (0, 1, 0)))
        self.same(keep.turn(0), None)
        self.same(keep.turn(1), None)
        self.same(keep.standing(), ((0, 0, 0), (0, 0, 0), (1, 0, 0)))
        self.same(keep.hands(), ([0, 0, 0], [0, 0, 0], [1, -1, 0]))
        self.same(keep.turn(0), None)
        self.same(keep.hands(), ([0, 0, 0], [0, 0, 0], [0, -1, 0]))
        self.same(keep.went(), ([0, 0, 0], [0, 0, 0]))
        for lock in (3, -1, 10 ** 12):
            self.refused_and_nothing_changed(NoLock, "lock", lock, keep, "turn", lock)

    def test_hands_beyond_what_a_lock_stands(self):
        keep = Keep(LOCK, STANDING)
        for many in range(1, 6):
            keep.turn(0)
            keep.go(0, "red") if keep.standing()[0][1] else keep.row([(0, "red")] * 0)
            if keep.standing()[2][0]:
                keep.fill("red", 1, 1)
                keep.go(0, "red")
            self.same(keep.hands()[2], [many])
            self.same(keep.went()[0][0], -many)
            self.same(keep.almanac(), [(-many, 0)])

    def test_dig(self):
        keep = Keep((3, 2, ()), ((1, 0, 0), (0, 1), ()))
        self.same(keep.dig(0, 2, 1, 0), 0)
        self.same(keep.dig(1, 1, 0, 0), 1)
        self.same(keep.canal(), (3, 2, ((0, 2, 1, 0), (1, 1, 0, 0))))
        self.same(keep.standing(), ((1, 0, 0), (0, 1), (0, 0)))
        self.same(keep.hands(), ([0, 0, 0], [0, 0], [0, 0]))
        self.same(keep.went(), ([0, 0], [0, 0]))
        self.same(keep.go(0, "red"), None)
        self.same(keep.turn(1), None)
        self.same(keep.dig(0, 0, 0, 0), 2)
        self.same(keep.standing(), ((0, 0, 1), (0, 1), (1, 1, 0)))
        self.same(keep.almanac(), [(1, 0), None, None])
        self.same(len(keep), 3)
        self.same(Keep(RING, ((0,) * 3, (0,) * 3, (0,) * 3)).dig(0, 0, 0, 0), 3)

    def test_dig_where_a_basin_is_not_there(self):
        keep = Keep((3, 2, ()), ((1, 0, 0), (0, 1), ()))
        for handed, basin in [
                ((3, 4, 5, 6), 3), ((0, 4, 5, 6), 4), ((0, 0, 5, 6), 5), ((0, 0, 0, 6), 6), ((-1, 9, 9, 9), -1), ((2, 2, 2, 0), 2),
                ((2, 2, 1, 2), 2), ((2, -1, -2, 7), -1), ((0, 0, 0, -7), -7), ((0, 3, 0, 0), 3), ((3, 0, 0, 0), 3)]:
            self.refused_and_nothing_changed(NoBasin, "basin", basin, keep, "dig", *handed)
        wide = Keep((1, 3, ()), ((1,), (0, 0, 0), ()))
        self.refused_and_nothing_changed(NoBasin, "basin", 2, wide, "dig", 2, 0, 2, 2)
        self.refused_and_nothing_changed(NoBasin, "basin", 1, wide, "dig", 0, 1, 2, 2)
        self.same(wide.dig(0, 0, 2, 2), 0)

    def test_undo_of_every_kind_of_deed(self):
        for word, handed in [
                ("go", (0, "red")), ("row", ([(0, "red"), (0, "red")],)), ("row", ([],)), ("fill", ("red", 0, 3)),
                ("fill", ("blue", 1, 3)), ("drain", ("red", 0, 2)), ("drain", ("blue", 0, 1)), ("turn", (0,)), ("dig", (0, 1, 1, 0))]:
            keep = Keep(LOCK, STANDING)
            keep.go(0, "blue")
            keep.undo()
            before = exact(asks(keep))
            with self.subTest(word):
                getattr(keep, word)(*handed)
                self.same(keep.deeds(), 1)
                self.same(keep.undo(), True)
                self.assertEqual(exact(asks(keep)), before)
                self.same(keep.undo(), False)
                self.assertEqual(exact(asks(keep)), before)
                self.same(keep.log()[-6:], [("in", word), ("out", word)] + [("in", "undo"), ("out", "undo")] * 2)

    def test_undo_where_none_stands(self):
        keep = Keep(LOCK, STANDING)
        for _ in range(3):
            self.same(keep.undo(), False)
        self.same(keep.deeds(), 0)
        self.same(keep.log(), [("in", "undo"), ("out", "undo")] * 3)
        # A refused deed doesn't stand, so it isn't undone.
        keep.go(0, "red")
        self.refused(NoBoat, "going", (0, "blue"), keep.go, 0, "blue")
        self.same(keep.undo(), True)
        self.same(keep.undo(), False)
        self.same(keep.standing(), STANDING)

    def test_done_anew_behind_undo(self):
        keep = Keep(LOCK, STANDING)
        keep.go(0, "red")
        keep.dig(0, 1, 0, 1)
        keep.undo()
        keep.undo()
        self.same(keep.dig(1, 1, 0, 0), 1)
        keep.go(0, "blue")
        self.same(keep.standing(), ((2, 0), (0, 1), (1, 0)))
        self.same(keep.went(), ([0, 0], [1, 0]))


class Asks(KeepCase):
    def test_against_all_done_anew(self):
        chance = random.Random(600)
        canals = [RING, LOOPS, BARE, LOCK, TWICE, *KINDS[:8], *all_canals(5)]
        refused = done = 0
        for canal in canals:
            standing = some_standing(chance, canal, 2)
            keep, model = Keep(canal, standing), Model(canal, standing)
            for _ in range(30):
                if self.done_by_both(keep, model, *some_deed(chance, model)):
                    done += 1
                else:
                    refused += 1
                self.same(keep.standing(), model.standing())
                self.same(keep.deeds(), len(model.deeds))
            with self.subTest((canal, standing, model.deeds)):
                self.told_right(keep, model)
                self.told_of_times(keep, model, chance)
        self.assertGreater(refused, 200)
        self.assertGreater(done, 800)

    def test_paid(self):
        chance = random.Random(601)
        for canal in KINDS + all_canals(10):
            standing = some_standing(chance, canal, 2)
            keep, model = Keep(canal, standing), Model(canal, standing)
            for _ in range(25):
                self.done_by_both(keep, model, *some_deed(chance, model))
            for most in (5, 10 ** 12):
                tolls = some_tolls(chance, keep.canal(), most)
                told = keep.paid(tolls)
                with self.subTest((canal, standing, model.deeds, tolls)):
                    self.same(told[1], step(keep.canal(), tolls))
                    self.assertTrue(is_multiple(model.pays(tolls) - told[0], told[1]))
                    self.assertTrue(told[1] == 0 or 0 <= told[0] < told[1])
                    self.same(type(told), tuple)
                    self.same(keep.paid(listed(tolls)), told)
                    self.same(keep.paid(tolls=tupled(tolls)), told)

    def test_as_almanac_and_paid_tell_where_nothing_was_done_by_hand(self):
        chance = random.Random(602)
        for canal in KINDS + all_canals(5):
            standing = some_standing(chance, canal, 3)
            keep, model = Keep(canal, standing), Model(canal, standing)
            for _ in range(20):
                deed = some_deed(chance, model, 0)
                if deed[0] in ("go", "row", "undo"):
                    self.done_by_both(keep, model, *deed)
            tolls = some_tolls(chance, canal)
            self.same(keep.almanac(), almanac(canal, standing, keep.standing()))
            self.same(keep.paid(tolls), paid(canal, tolls, standing, keep.standing()))

    def test_almanac_by_hand(self):
        keep = Keep((4, 2, ring_of(3)[2]), ((1, 0, 0, 0), (0, 1), (0, 0, 0)))
        self.same(keep.almanac(), [(0, 0)] * 3)
        keep.go(0, "red")
        keep.go(0, "blue")
        keep.turn(0)
        keep.fill("red", 2, 9)
        keep.drain("red", 1, 1)
        self.same(keep.hands(), ([0, -1, 9, 0], [0, 0], [1, 0, 0]))
        self.same(keep.almanac(), [(1, -1), (0, 0), (0, 0)])
        self.same(keep.paid([(5, 3), (0, 0), (0, 0)]), (2, 0))
        # The boat that a hand took out of a basin that had none at first.
        self.same(keep.standing(), ((0, 0, 9, 0), (1, 0), (1, 0, 0)))
        keep.dig(2, 3, 1, 0)
        keep.go(3, "red")
        self.same(keep.almanac(), [(1, -1), (0, 0), (0, 0), (1, 0)])
        self.same(keep.paid([(5, 3), (0, 0), (0, 0), (100, 7)]), (102, 0))
        # Beside one more lock of the same ends neither can be told.
        keep.dig(2, 0, 0, 1)
        self.same(keep.almanac(), [(1, -1), (0, 0), None, (1, 0), None])

    def test_equal(self):
        one, other = Keep(LOCK, STANDING), Keep(listed(LOCK), listed(STANDING))
        self.same(one == other, True)
        self.same(one != other, False)
        # Whatever went, was undone or refused between.
        one.row([(0, "red"), (0, "red")])
        self.refused(NoLock, "lock", 4, one.turn, 4)
        one.go(0, "blue")
        one.undo()
        self.same(one == other, True)
        self.same(other == one, True)
        one.go(0, "blue")
        self.same(one == other, False)
        self.same(one != other, True)
        other.go(0, "blue")
        self.same(one == other, True)
        # The same standing by hand isn't the same.
        other.undo()
        other.turn(0)
        other.drain("blue", 0, 1)
        other.fill("blue", 1, 1)
        self.same(one.standing(), other.standing())
        self.same(one == other, False)
        self.same(Keep(LOCK, STANDING) == Keep((2, 2, ((0, 1, 1, 0),)), STANDING), False)
        self.same(Keep(LOCK, STANDING) == Keep(LOCK, ((2, 0), (1, 0), (1,))), False)
        self.same(Keep(LOCK, STANDING) == Keep(LOCK, ((2, 0), (0, 1), (0,))), False)
        self.same(Keep((2, 2, ()), ((0, 0), (0, 0), ())) == Keep((2, 2, ()), ((0, 0), (0, 0), ())), True)
        # What went counts for nothing, nor how many deeds stand.
        around = Keep((1, 1, ((0, 0, 0, 0),)), ((1,), (1,), (0,)))
        still = around.twin()
        around.row([(0, "red"), (0, "blue")])
        self.same(around == still, True)

    def test_hands_alone_tell_two_apart(self):
        one, other = Keep(LOCK, STANDING), Keep(LOCK, STANDING)
        one.fill("red", 0, 1)
        other.fill("red", 0, 2)
        other.drain("red", 0, 1)
        self.same(one == other, True)
        first, last = Keep(LOCK, STANDING), Keep(LOCK, ((1, 0), (1, 0), (0,)))
        last.fill("red", 0, 1)
        self.same(first.standing(), last.standing())
        self.same(first == last, False)
        for water, basin in ("blue", 1), ("red", 0):
            first, last = Keep(LOCK, STANDING), Keep(LOCK, STANDING)
            last.fill(water, basin, 1)
            last.undo()
            self.same(first == last, True)

    def test_equal_to_nothing_of_another_kind(self):
        keep = Keep(LOCK, STANDING)
        for thing in (None, True, 0, 1, "Keep(2 red, 2 blue, 1 locks)", (), [], LOCK, (LOCK, STANDING), [keep], Keep, object()):
            self.same(keep == thing, False)
            self.same(thing == keep, False)
            self.same(keep != thing, True)

    def test_len_and_repr(self):
        keep = Keep((3, 2, ((0, 1, 0, 1),) * 4), ((0,) * 3, (0,) * 2, (0,) * 4))
        self.same(repr(keep), "Keep(3 red, 2 blue, 4 locks)")
        self.same(len(keep), 4)
        self.same(str(keep), repr(keep))
        keep.dig(0, 0, 0, 0)
        self.same(repr(keep), "Keep(3 red, 2 blue, 5 locks)")
        self.same(len(keep), 5)
        keep.undo()
        self.same(len(keep), 4)
        self.same(repr(Keep(BARE, ((0,), (0,), ()))), "Keep(1 red, 1 blue, 0 locks)")
        self.same(len(Keep(BARE, ((0,), (0,), ()))), 0)
        self.same(repr(Keep(FULL, ((0,) * 8, (0,) * 8, (0,) * 10))), "Keep(8 red, 8 blue, 10 locks)")


class AsOf(KeepCase):
    def kept(self):
        keep = Keep(LOCK, STANDING)
        keep.go(0, "red")
        keep.fill("blue", 0, 2)
        keep.undo()
        keep.dig(1, 0, 1, 1)
        keep.row([(1, "red"), (0, "blue")] if keep.standing()[1][1] else [(1, "red")])
        keep.turn(1)
        return keep

    def test_as_behind_the_first_so_many(self):
        keep = self.kept()
        self.same(keep.deeds(), 4)
        self.same([keep.as_of(many).standing() for many in range(5)], [
            STANDING, ((1, 1), (1, 0), (1,)), ((1, 1), (1, 0), (1, 0)), ((2, 0), (1, 0), (1, 1)), ((2, 0), (1, 0), (1, 0))])
        self.same([keep.as_of(many).deeds() for many in range(5)], [0, 1, 2, 3, 4])
        self.same([len(keep.as_of(many)) for many in range(5)], [1, 1, 2, 2, 2])
        self.same(keep.as_of(4).hands(), ([0, 0], [0, 0], [0, -1]))
        self.same(keep.as_of(3).hands(), ([0, 0], [0, 0], [0, 0]))
        self.same(keep.as_of(3).went(), ([1, 1], [0, 0]))
        self.same(type(keep.as_of(0)), Keep)

    def test_beyond_and_below(self):
        keep = self.kept()
        for many in (5, -1, 10 ** 12, -(10 ** 12), 6):
            before, log = exact(asks(keep)), keep.log()
            self.refused(NoDeed, "many", many, keep.as_of, many)
            self.refused(NoDeed, "many", many, keep.as_of, many=many)
            self.assertEqual(exact(asks(keep)), before)
            self.same(keep.log(), log)
        self.refused(NoDeed, "many", 1, Keep(LOCK, STANDING).as_of, 1)
        self.same(Keep(LOCK, STANDING).as_of(0).deeds(), 0)
        # Undone ones don't stand.
        keep.undo()
        self.refused(NoDeed, "many", 4, keep.as_of, 4)

    def test_its_log_is_bare(self):
        keep = self.kept()
        for part in (keep.as_of(0), keep.as_of(2), keep.as_of(4), keep.twin()):
            self.same(part.log(), [])
            part.undo()
            self.same(part.log(), [("in", "undo"), ("out", "undo")])
        self.same(len(keep.log()), 12)

    def test_of_its_own(self):
        keep = self.kept()
        before, log = exact(asks(keep)), keep.log()
        for part in (keep.as_of(0), keep.as_of(2), keep.as_of(4), keep.twin()):
            there = part.deeds()
            part.fill("red", 0, 5)
            part.dig(0, 0, 0, 0)
            self.same(part.deeds(), there + 2)
            self.assertEqual(exact(asks(keep)), before)
            for _ in range(there + 2):
                self.same(part.undo(), True)
            self.same(part.undo(), False)
            self.same(part.standing(), STANDING)
            self.same(part.canal(), LOCK)
            self.assertEqual(exact(asks(keep)), before)
            self.same(keep.log(), log)
        # And the other way about.
        twin = keep.twin()
        told = exact(asks(twin))
        keep.undo()
        keep.drain("red", 0, 1)
        self.assertEqual(exact(asks(twin)), told)
        self.same(twin.log(), [])

    def test_a_twin_of_a_twin(self):
        keep = self.kept()
        for part in (keep.twin(), keep.twin().twin(), keep.as_of(4).as_of(4)):
            self.same(part == keep, True)
            self.assertEqual(exact(asks(part)), exact(asks(keep)))
            self.assertIsNot(part, keep)
        self.same(keep.as_of(3).as_of(1).standing(), ((1, 1), (1, 0), (1,)))
        self.refused(NoDeed, "many", 4, keep.as_of(3).as_of, 4)

    def test_almanac_and_paid_by_what_was_at_first(self):
        keep = Keep(ring_of(3), ((1, 0, 0), (0, 1), (0, 0, 0)))
        keep.go(0, "red")
        keep.turn(2)
        keep.go(1, "red")
        part = keep.as_of(2)
        part.go(0, "blue")
        self.same(part.almanac(), [(1, -1), (0, 0), (0, 0)])
        self.same(part.paid([(1, 10), (0, 0), (0, 0)]), (-9, 0))
        self.same(keep.almanac(), [(1, 0), (1, 0), (0, 0)])


class Log(KeepCase):
    def test_in_and_out_of_each_deed_refused_or_not(self):
        keep = Keep(LOCK, STANDING)
        self.same(keep.log(), [])
        wanted = []
        for word, handed, refused in [
                ("go", (0, "red"), None), ("go", (0, "blue"), NoBoat), ("go", (7, "red"), NoLock), ("row", ([(0, "red")],), None),
                ("row", ([(0, "red")] * 2 + [(1, "red")],), NoLock), ("row", ([],), None), ("fill", ("red", 0, 1), None),
                ("fill", ("red", 9, 1), NoBasin), ("drain", ("red", 0, 1), None), ("drain", ("red", 0, 99), Short),
                ("drain", ("blue", 9, 1), NoBasin), ("turn", (0,), None), ("turn", (1,), NoLock), ("dig", (0, 0, 0, 0), None),
                ("dig", (0, 9, 0, 0), NoBasin), ("undo", (), None)]:
            if refused is None:
                getattr(keep, word)(*handed)
            else:
                with self.assertRaises(refused):
                    getattr(keep, word)(*handed)
            wanted += [("in", word), ("out", word)]
            self.same(keep.log(), wanted)

    def test_asks_stand_not_in_it(self):
        keep = Keep(LOCK, STANDING)
        keep.go(0, "red")
        asks(keep)
        keep.twin()
        keep.as_of(0)
        keep.log()
        self.refused(NoDeed, "many", 2, keep.as_of, 2)
        self.same(keep.log(), [("in", "go"), ("out", "go")])


class WhoseItIs(KeepCase):
    def test_what_was_handed_in_changed_later(self):
        for make in (listed, mixed):
            canal, standing = make(LOCK), make(STANDING)
            keep = Keep(canal, standing)
            emptied(canal)
            emptied(standing)
            self.same(keep.canal(), LOCK)
            self.same(keep.standing(), STANDING)
            goings, tolls = [[0, "red"], [0, "red"], [0, "blue"]], [[1, 2]]
            keep.row(goings)
            self.same(goings, [[0, "red"], [0, "red"], [0, "blue"]])
            keep.paid(tolls)
            self.same(tolls, [[1, 2]])
            told = exact(asks(keep))
            emptied(goings)
            emptied(tolls)
            self.assertEqual(exact(asks(keep)), told)
            keep.undo()
            self.same(keep.standing(), STANDING)

    def test_what_is_handed_in_stays_as_it_was(self):
        canal, standing = listed(LOCK), listed(STANDING)
        keep = Keep(canal, standing)
        keep.go(0, "red")
        keep.dig(0, 0, 0, 0)
        keep.fill("red", 0, 1)
        keep.undo()
        self.same(canal, listed(LOCK))
        self.same(standing, listed(STANDING))

    def test_told_lists_changed(self):
        keep = Keep(LOCK, STANDING)
        keep.go(0, "red")
        keep.turn(0)
        told, log = exact(asks(keep)), keep.log()
        for ask in (keep.hands, keep.went, keep.almanac, keep.log):
            one, other = ask(), ask()
            self.same(one, other)
            emptied(one)
            self.same(ask(), other)
            self.assertEqual(exact(asks(keep)), told)
            self.same(keep.log(), log)
        for part in range(3):
            self.assertIsNot(keep.hands()[part], keep.hands()[part])
        self.assertIsNot(keep.hands()[0], keep.hands()[1])
        self.assertIsNot(keep.went()[0], keep.went()[1])
        twin = keep.twin()
        emptied(twin.hands())
        emptied(twin.went())
        self.assertEqual(exact(asks(keep)), told)

    def test_lists_told_of_bare_ones_are_not_one_and_the_same(self):
        keep = Keep(BARE, ((0,), (0,), ()))
        reds, blues = keep.went()
        reds.append(5)
        self.same(blues, [])
        self.same(keep.went(), ([], []))
        self.same(keep.hands(), ([0], [0], []))
        self.same(keep.almanac(), [])
        self.same(keep.paid([]), (0, 0))

    def test_what_a_refusal_has_is_not_kept(self):
        keep = Keep(LOCK, STANDING)
        goings = [[0, "red"], [0, "blue"]]
        with self.assertRaises(NoBoat) as caught:
            keep.row(goings)
        emptied(goings)
        self.same(caught.exception.going, (0, "blue"))

    def test_arguments_by_names_in_any_order(self):
        keep = Keep(standing=listed(STANDING), canal=listed(LOCK))
        keep.go(water="red", lock=0)
        keep.row(goings=[[0, "red"]])
        keep.fill(many=3, basin=1, water="blue")
        keep.drain(basin=1, many=2, water="blue")
        keep.turn(lock=0)
        self.same(keep.dig(y=1, x=0, c=1, a=0), 1)
        self.same(keep.standing(), ((2, 0), (1, 1), (1, 0)))
        self.same(keep.canal(), (2, 2, ((0, 1, 0, 1), (0, 1, 0, 1))))
        self.same(keep.as_of(many=1).standing(), ((1, 1), (1, 0), (1,)))
        self.same(keep.paid(tolls=[[1, 0], [0, 0]]), (0, 1))
        self.refused(NoLock, "lock", 5, keep.go, water="red", lock=5)
        self.refused(NoBasin, "basin", 5, keep.dig, y=6, x=5, c=1, a=0)
        self.refused(Short, "many", 4, keep.drain, many=5, water="blue", basin=1)

    def test_asked_twice(self):
        keep = Keep(TWICE, ((1, 2, 0), (0, 3, 1), (0, 1, 0, 1)))
        keep.go(0, "red")
        keep.dig(0, 0, 0, 0)
        self.assertEqual(exact(asks(keep)), exact(asks(keep)))


class Bounds(KeepCase):
    def test_eighty_deeds_that_stand(self):
        chance = random.Random(610)
        most = 10 ** 12
        for canal in (FULL, large_canal(chance)):
            standing = (most,) * 8, (most,) * 8, (0, 1) * 5
            keep, model = Keep(canal, standing), Model(canal, standing)
            while len(model.deeds) < 80:
                deed = some_deed(chance, model)
                if deed[0] != "dig":
                    self.done_by_both(keep, model, *deed)
            self.same(keep.deeds(), 80)
            self.told_right(keep, model)
            self.told_of_times(keep, model, chance)
            for many in range(80):
                self.same(keep.undo(), True)
            self.same(keep.undo(), False)
            self.same(keep.standing(), standing)

    def test_somewhat_beyond(self):
        keep = Keep(LOCK, STANDING)
        for _ in range(200):
            keep.row([(0, "red")] * 450)
        keep.fill("red", 0, 10 ** 14)
        for _ in range(20):
            keep.dig(0, 1, 1, 0)
        self.same(keep.deeds(), 221)
        self.same(len(keep), 21)
        self.same(keep.went()[0][0], 0)
        self.same(keep.as_of(200).standing(), STANDING)
        self.same(keep.standing()[0], (2 + 10 ** 14, 0))

    def test_rows_of_four_hundred(self):
        keep = Keep(LOCK, ((400, 0), (0, 400), (0,)))
        keep.row([(0, "red"), (0, "blue")] * 200)
        self.same(keep.went(), ([200], [-200]))
        self.same(keep.almanac(), [(200, -200)])
        self.same(keep.standing(), ((200, 200), (200, 200), (0,)))

    def test_what_was_told_may_be_handed_in_again(self):
        keep = Keep(FULL, ((10 ** 12,) * 8, (10 ** 12,) * 8, (0,) * 10))
        for _ in range(5):
            keep.fill("red", 0, 10 ** 12)
        again = Keep(keep.canal(), keep.standing())
        self.same(again.standing(), keep.standing())
        self.same(again.hands(), ([0] * 8, [0] * 8, [0] * 10))
        self.same(copy.deepcopy(again.standing()), keep.standing())
