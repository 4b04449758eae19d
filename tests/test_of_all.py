"""What holds of all functions: how they're handed things, and whose is what they tell."""

import copy
import random

from crosslocks.alone import asleep, leads, row_alone, woken
from crosslocks.canals import exchanged, exchanged_standing, is_canal, is_standing, pieces, together
from crosslocks.counts import almanac, counts, rounds, shows_counts, shows_round, sure
from crosslocks.desk import answers
from crosslocks.errors import BadRow, Loose, NoBoat, NoCounts, Others, TooMany
from crosslocks.goings import gone, gone_all, may_go, went
from crosslocks.heights import bar, is_heights, shows_bar, weight
from crosslocks.maps import canal_of, faces, is_flat, is_map, trees
from crosslocks.measures import have_counts, lots, measures, scales
from crosslocks.plenty import fewest, how_many, is_enough, plain_row, wanted
from crosslocks.small import far, is_stuck, lot_of, scarce, shows_lot, way
from crosslocks.tellers import known, round_by, shows_teller, stride, teller
from crosslocks.texts import canal_in, canal_text, standing_in, standing_text
from crosslocks.tolls import paid, paid_by, step
from tests.apart import (
    BESIDE, FOUR, KINDS, TWICE, are_heights, bars, changed, fits, goes_round, large_canal, moved, ring_of,
    some_pair, tells)
from tests.charts import CROSSED, HUB, NESTED, ONE_BASIN
from tests.samples import FULL, LOOPS, RING, WIDE, Case, emptied, exact, listed, mixed, tupled
from tests.through import is_multiple

STANDING = ((1, 0, 2), (0, 1, 1), (0, 1, 0))
MANY = ((10 ** 12,) * 8, (10 ** 12,) * 8, (0, 1) * 5)
ROW = [(0, "red"), (0, "red"), (2, "blue"), (2, "red")]

# Each is what is called, what it's handed by the names that the document tells, what it tells.
CALLS = [
    (is_canal, {"thing": RING}, True),
    (is_canal, {"thing": listed(RING)}, False),
    (is_standing, {"canal": RING, "thing": STANDING}, True),
    (is_standing, {"canal": RING, "thing": listed(STANDING)}, False),
    (exchanged, {"canal": WIDE}, (2, 4, ((1, 0, 0, 2), (0, 1, 3, 3)))),
    (exchanged_standing, {"standing": STANDING}, ((0, 1, 1), (1, 0, 2), (0, 1, 0))),
    (together, {"one": LOOPS, "other": WIDE},
     (6, 3, ((0, 0, 0, 0), (1, 1, 0, 0), (0, 1, 0, 0), (2, 4, 2, 1), (5, 5, 1, 2)))),
    (pieces, {"canal": WIDE, "water": "red"}, [(0, 2), (1,), (3,)]),
    (pieces, {"canal": WIDE, "water": "blue"}, [(0, 1)]),
    (may_go, {"canal": RING, "standing": STANDING}, [(0, "red"), (1, "red"), (1, "blue"), (2, "red"), (2, "blue")]),
    (gone, {"canal": RING, "standing": STANDING, "going": (0, "red")}, ((0, 1, 2), (0, 1, 1), (1, 1, 0))),
    (gone_all, {"canal": RING, "standing": STANDING, "row": ROW}, ((0, 0, 3), (1, 1, 0), (0, 1, 0))),
    (gone_all, {"canal": RING, "standing": STANDING, "row": []}, STANDING),
    (went, {"canal": RING, "standing": STANDING, "row": ROW}, ([0, 0, -1], [0, 0, 1])),
    (went, {"canal": RING, "standing": STANDING, "row": []}, ([0, 0, 0], [0, 0, 0])),
    (may_go, {"canal": FULL, "standing": MANY}, [(lock, water) for lock in range(10) for water in ("red", "blue")]),
    (exchanged_standing, {"standing": MANY}, MANY),
]
# Where one boat has gone around from basin 0 to basin 1 of a ring, and where one lies otherwise.
AROUND = ring_of(3)
ONE = ((1, 0, 2), (0, 4), (0, 0, 1))
OTHER = ((0, 1, 2), (0, 4), (1, 0, 1))
ELSEWHERE = ((0, 1, 2), (0, 4), (0, 0, 1))
CALLS += [
    (counts, {"canal": AROUND, "one": ONE, "other": OTHER}, [1, 0, 0]),
    (counts, {"canal": AROUND, "one": ONE, "other": ELSEWHERE}, None),
    (shows_counts, {"canal": AROUND, "one": ONE, "other": OTHER, "thing": [1, 0, 0]}, True),
    (shows_counts, {"canal": AROUND, "one": ONE, "other": OTHER, "thing": (1, 0, 0)}, False),
    (shows_counts, {"canal": AROUND, "one": OTHER, "other": ONE, "thing": [1, 0, 0]}, False),
    (shows_round, {"canal": TWICE, "thing": [2, 1, 1, 1]}, True),
    (shows_round, {"canal": TWICE, "thing": (2, 1, 1, 1)}, False),
    (rounds, {"canal": AROUND}, []),
    (sure, {"canal": LOOPS}, [2]),
    (almanac, {"canal": AROUND, "one": ONE, "other": OTHER}, [(1, 0), (0, 0), (0, 0)]),
    (almanac, {"canal": LOOPS, "one": ((1, 0), (1,), (0, 0, 0)), "other": ((0, 1), (1,), (1, 0, 1))}, [None, None, (1, 0)]),
    (is_heights, {"canal": AROUND, "thing": (3, (0, 1, 2), (0, 1))}, True),
    (is_heights, {"canal": AROUND, "thing": [3, [0, 1, 2], [0, 1]]}, False),
    (weight, {"canal": AROUND, "heights": (3, (0, 1, 2), (0, 1)), "standing": ONE}, 1),
    (bar, {"canal": AROUND, "one": ONE, "other": OTHER}, None),
    (shows_bar, {"canal": AROUND, "one": ONE, "other": ELSEWHERE, "thing": (3, (0, 1, 2), (0, 1))}, True),
    (shows_bar, {"canal": AROUND, "one": ONE, "other": OTHER, "thing": (3, (0, 1, 2), (0, 1))}, False),
    (measures, {"canal": FOUR}, [4, 4, 0, 0]),
    (have_counts, {"canal": AROUND, "one": ONE, "other": OTHER}, True),
    (have_counts, {"canal": AROUND, "one": ONE, "other": ELSEWHERE}, False),
    (lots, {"canal": AROUND, "standings": [ONE, ELSEWHERE, OTHER, ONE]}, [[0, 2, 3], [1]]),
    (lots, {"canal": AROUND, "standings": []}, []),
    (teller, {"canal": LOOPS, "lock": 1}, None),
    (shows_teller, {"canal": AROUND, "lock": 0, "thing": (3, (0, 2, 1), (1, 0))}, True),
    (shows_teller, {"canal": AROUND, "lock": 1, "thing": (3, (0, 2, 1), (1, 0))}, False),
    (round_by, {"canal": AROUND, "lock": 1}, None),
    (stride, {"canal": TWICE, "lock": 0}, 2),
    (known, {"canal": AROUND, "lock": 0, "one": ONE, "other": OTHER}, (1, 0)),
    (known, {"canal": TWICE, "lock": 0, "one": ((1, 0, 0), (0, 0, 0), (0, 0, 0, 0)),
             "other": ((0, 1, 0), (0, 0, 0), (1, 0, 0, 0))}, (1, 2)),
]
TOLLS = [(5, 1), (7, 7), (0, -3)]
DOUBLE = [(5, 0), (0, 0), (0, 0), (0, 0)]
LOCK = (2, 2, ((0, 1, 0, 1),))
LOW, HIGH = ((2, 0), (0, 1), (0,)), ((1, 1), (0, 1), (1,))
CALLS += [
    (paid_by, {"canal": RING, "tolls": TOLLS, "standing": STANDING, "row": ROW}, -3),
    (paid_by, {"canal": RING, "tolls": TOLLS, "standing": STANDING, "row": []}, 0),
    (step, {"canal": TWICE, "tolls": DOUBLE}, 10),
    (step, {"canal": AROUND, "tolls": TOLLS}, 0),
    (paid, {"canal": AROUND, "tolls": TOLLS, "one": ONE, "other": OTHER}, (5, 0)),
    (paid, {"canal": TWICE, "tolls": DOUBLE, "one": ((0, 1, 0), (0, 0, 0), (1, 0, 0, 0)),
            "other": ((1, 0, 0), (0, 0, 0), (0, 0, 0, 0))}, (5, 10)),
    (plain_row, {"canal": AROUND, "one": ONE, "other": OTHER, "counts": [1, 0, 0]}, [(0, "red")]),
    (plain_row, {"canal": LOCK, "one": LOW, "other": ((0, 2), (1, 0), (1,)), "counts": [2]},
     [(0, "red"), (0, "blue"), (0, "red")]),
    (how_many, {"canal": LOCK, "one": LOW, "other": ((0, 2), (1, 0), (1,)), "counts": [2]}, 3),
    (wanted, {"canal": LOCK, "one": LOW, "other": ((0, 2), (1, 0), (1,)), "counts": [2]}, ((2, 0), (0, 1))),
    (is_enough, {"canal": LOCK, "one": LOW, "other": ((0, 2), (1, 0), (1,)), "counts": [2]}, True),
    (is_enough, {"canal": (3, 1, ((1, 2, 0, 0), (0, 1, 0, 0))), "one": ((1, 0, 0), (0,), (0, 0)),
                 "other": ((0, 0, 1), (0,), (1, 1)), "counts": [1, 1]}, False),
    (fewest, {"canal": LOCK, "one": LOW, "other": ((0, 2), (1, 0), (1,))}, 3),
    (lot_of, {"canal": LOCK, "standing": LOW},
     [((0, 2), (1, 0), (1,)), ((1, 1), (0, 1), (1,)), ((1, 1), (1, 0), (0,)), LOW]),
    (shows_lot, {"canal": LOCK, "standing": ((1, 0), (0, 0), (0,)),
                 "thing": [((0, 1), (0, 0), (1,)), ((1, 0), (0, 0), (0,))]}, True),
    (shows_lot, {"canal": LOCK, "standing": ((1, 0), (0, 0), (0,)),
                 "thing": (((0, 1), (0, 0), (1,)), ((1, 0), (0, 0), (0,)))}, False),
    (shows_lot, {"canal": LOCK, "standing": LOW, "thing": listed([LOW])}, False),
    (far, {"canal": LOCK, "one": LOW, "other": HIGH}, 1),
    (far, {"canal": LOCK, "one": LOW, "other": STANDING}, None),
    (way, {"canal": LOCK, "one": LOW, "other": ((0, 2), (1, 0), (1,))}, [(0, "red"), (0, "blue"), (0, "red")]),
    (way, {"canal": LOCK, "one": LOW, "other": LOW}, []),
    (way, {"canal": LOCK, "one": LOW, "other": ((2, 0), (0, 1), (1,))}, None),
    (is_stuck, {"canal": LOCK, "standing": LOW}, False),
    (is_stuck, {"canal": LOCK, "standing": ((0, 1), (0, 1), (0,))}, True),
    (scarce, {"canal": LOCK, "one": LOW, "other": HIGH}, False),
    (scarce, {"canal": AROUND, "one": ((0, 0, 0), (0, 3), (0, 0, 0)), "other": ((0, 0, 0), (3, 0), (0, 0, 0))}, True),
    (asleep, {"canal": RING, "standing": ((0, 1, 0), (0, 0, 0), (0, 0, 1)), "water": "red"}, [0]),
    (asleep, {"canal": RING, "standing": ((0, 0, 0), (0, 0, 0), (0, 0, 1)), "water": "blue"}, [0, 1, 2]),
    (leads, {"canal": LOCK, "one": ((2, 0), (0, 0), (0,)), "other": ((1, 1), (0, 0), (1,)), "water": "red"}, True),
    (leads, {"canal": LOCK, "one": ((2, 0), (0, 0), (0,)), "other": ((1, 1), (0, 0), (0,)), "water": "red"}, False),
    (row_alone, {"canal": LOCK, "one": ((2, 0), (0, 0), (0,)), "other": ((1, 1), (0, 0), (1,)), "water": "red"},
     [(0, "red")]),
    (row_alone, {"canal": LOCK, "one": ((2, 0), (0, 0), (0,)), "other": ((1, 1), (0, 0), (0,)), "water": "red"}, None),
    (woken, {"canal": RING, "standing": ((0, 1, 0), (0, 0, 0), (0, 0, 0)), "water": "red", "basin": 0},
     [(1, "red"), (2, "red")]),
    (woken, {"canal": RING, "standing": ((0, 1, 0), (0, 0, 0), (0, 0, 0)), "water": "red", "basin": 1}, []),
    (woken, {"canal": RING, "standing": ((0, 1, 0), (0, 0, 0), (0, 0, 1)), "water": "red", "basin": 0}, None),
]
LOCK_TEXT = "canal 2 2\nlock 0 1 0 1"
LOW_TEXT = "reds 2 0\nblues 0 1\nlocks 0"
CALLS += [
    (is_map, {"thing": HUB}, True),
    (is_map, {"thing": listed(HUB)}, False),
    (is_map, {"thing": ONE_BASIN}, True),
    (faces, {"chart": ONE_BASIN}, [[]]),
    (faces, {"chart": NESTED}, [[(0, 0)], [(1, 0), (0, 1)], [(1, 1)]]),
    (is_flat, {"chart": HUB}, True),
    (is_flat, {"chart": CROSSED}, False),
    (canal_of, {"chart": NESTED}, (1, 3, ((0, 0, 1, 0), (0, 0, 2, 1)))),
    (trees, {"canal": FOUR}, 16),
    (canal_text, {"canal": LOCK}, LOCK_TEXT),
    (canal_in, {"text": LOCK_TEXT}, LOCK),
    (standing_text, {"standing": LOW}, LOW_TEXT),
    (standing_in, {"canal": LOCK, "text": LOW_TEXT}, LOW),
    (answers, {"text": LOCK_TEXT + "\n" + LOW_TEXT + "\ngo 0 red\nmay"}, ["done", "0 red; 0 blue"]),
    (answers, {"text": LOCK_TEXT + "\n" + LOW_TEXT}, []),
]
# Which one is told isn't promised: the same one each time, whatever way it's asked.
UNPROMISED = [
    (counts, {"canal": RING, "one": STANDING, "other": STANDING}),
    (rounds, {"canal": RING}),
    (rounds, {"canal": BESIDE}),
    (rounds, {"canal": FULL}),
    (bar, {"canal": AROUND, "one": ONE, "other": ELSEWHERE}),
    (bar, {"canal": FULL, "one": MANY, "other": ((0,) * 8, (0,) * 8, (0,) * 10)}),
    (scales, {"canal": FULL}),
    (scales, {"canal": FOUR}),
    (teller, {"canal": FOUR, "lock": 5}),
    (round_by, {"canal": TWICE, "lock": 3}),
    (round_by, {"canal": KINDS[6], "lock": 2}),
    (row_alone, {"canal": AROUND, "one": ((2, 0, 0), (0, 0), (0, 0, 0)), "other": ((2, 0, 0), (0, 0), (1, 1, 1)),
                 "water": "red"}),
]
CALLS += [(call, names, copy.deepcopy(call(**names))) for call, names in UNPROMISED]
NO_COUNTS = [
    (almanac, {"canal": AROUND, "one": ONE, "other": ELSEWHERE}),
    (known, {"canal": AROUND, "lock": 1, "one": ONE, "other": ELSEWHERE}),
    (paid, {"canal": AROUND, "tolls": TOLLS, "one": ONE, "other": ELSEWHERE}),
    (fewest, {"canal": AROUND, "one": ONE, "other": ELSEWHERE}),
]
TWO_ROWS = [(0, "red"), (0, "blue")] * 2
# Each is what is called, what it's handed, the class that it's refused with, its field and what that has.
REFUSED = [
    (gone, {"canal": RING, "standing": STANDING, "going": (0, "blue")}, NoBoat, "going", (0, "blue")),
    (gone_all, {"canal": RING, "standing": STANDING, "row": TWO_ROWS}, NoBoat, "going", (0, "red")),
    (went, {"canal": RING, "standing": STANDING, "row": TWO_ROWS}, NoBoat, "going", (0, "red")),
    (paid_by, {"canal": RING, "tolls": TOLLS, "standing": STANDING, "row": TWO_ROWS}, NoBoat, "going", (0, "red")),
    (fewest, {"canal": TWICE, "one": ((0,) * 3, (0,) * 3, (0,) * 4), "other": ((0,) * 3, (0,) * 3, (0,) * 4)}, Loose, "lock", 0),
    (lot_of, {"canal": FULL, "standing": MANY}, TooMany, "many", 400),
    (far, {"canal": FULL, "one": MANY, "other": MANY}, TooMany, "many", 400),
    (way, {"canal": FULL, "one": MANY, "other": MANY}, TooMany, "many", 400),
    (scarce, {"canal": FULL, "one": MANY, "other": MANY}, TooMany, "many", 400),
    (asleep, {"canal": RING, "standing": STANDING, "water": "red"}, Others, "basin", 1),
    (leads, {"canal": RING, "one": STANDING, "other": STANDING, "water": "blue"}, Others, "basin", 0),
    (row_alone, {"canal": RING, "one": STANDING, "other": STANDING, "water": "red"}, Others, "basin", 1),
    (woken, {"canal": RING, "standing": STANDING, "water": "blue", "basin": 2}, Others, "basin", 0),
    (canal_in, {"text": LOCK_TEXT + "\nlock 0 1 0"}, BadRow, "at", 2),
    (standing_in, {"canal": LOCK, "text": "reds 2 0"}, BadRow, "at", 1),
    (answers, {"text": LOCK_TEXT + "\n" + LOW_TEXT + "\nundo\ngo"}, BadRow, "at", 6),
]


def lists_in(thing):
    """All lists of a thing, at any depth."""
    if not isinstance(thing, (list, tuple)):
        return []
    within = [found for part in thing for found in lists_in(part)]
    return [thing] + within if isinstance(thing, list) else within


def ways_handed(names):
    """The same arguments as tuples, as lists and mixed, the thing that's asked of as it is; each anew."""
    for make in (tupled, listed, mixed):
        yield {name: copy.deepcopy(worth) if name == "thing" else make(worth) for name, worth in names.items()}


class OfAll(Case):
    def test_by_places(self):
        for call, names, wanted in CALLS:
            for handed in ways_handed(names):
                with self.subTest(call.__name__, handed=handed):
                    self.same(call(*handed.values()), wanted)

    def test_by_names_in_any_order(self):
        for call, names, wanted in CALLS:
            for handed in ways_handed(names):
                with self.subTest(call.__name__, handed=handed):
                    self.same(call(**handed), wanted)
                    self.same(call(**dict(reversed(handed.items()))), wanted)

    def test_first_by_place_and_others_by_name(self):
        for call, names, wanted in CALLS:
            for handed in ways_handed(names):
                first = handed.pop(list(handed)[0])
                with self.subTest(call.__name__, first=first, handed=handed):
                    self.same(call(first, **handed), wanted)

    def test_what_is_handed_in_stays_as_it_was(self):
        for call, names, wanted in CALLS:
            for handed in ways_handed(names):
                before = exact(list(handed.values()))
                with self.subTest(call.__name__, handed=handed):
                    call(**handed)
                    self.assertEqual(exact(list(handed.values())), before)

    def test_refused_by_places_and_names_and_nothing_is_changed(self):
        for call, names, error, field, worth in REFUSED:
            for handed in ways_handed(names):
                before = exact(list(handed.values()))
                with self.subTest(call.__name__, handed=handed):
                    self.refused(error, field, worth, call, *handed.values())
                    self.refused(error, field, worth, call, **dict(reversed(handed.items())))
                    self.assertEqual(exact(list(handed.values())), before)

    def test_no_counts_by_places_and_names_and_nothing_is_changed(self):
        for call, names in NO_COUNTS:
            for handed in ways_handed(names):
                before = exact(list(handed.values()))
                for places, named in (handed.values(), {}), ((), dict(reversed(handed.items()))):
                    with self.subTest(call.__name__, handed=handed):
                        with self.assertRaises(NoCounts) as caught:
                            call(*places, **named)
                        self.assertIs(type(caught.exception), NoCounts)
                        self.assertEqual(exact(list(handed.values())), before)

    def test_what_is_handed_in_is_not_kept(self):
        for call, names, wanted in CALLS:
            for handed in ways_handed(names):
                with self.subTest(call.__name__, handed=handed):
                    told = call(**handed)
                    for worth in handed.values():
                        emptied(worth)
                    self.same(told, wanted)
                    self.same(call(**names), wanted)

    def test_what_a_refusal_has_is_not_kept(self):
        for call, names, error, field, worth in REFUSED:
            for handed in ways_handed(names):
                with self.subTest(call.__name__, handed=handed):
                    with self.assertRaises(error) as caught:
                        call(**handed)
                    for part in handed.values():
                        emptied(part)
                    self.same(getattr(caught.exception, field), worth)

    def test_what_is_told_is_the_askers_own(self):
        for call, names, wanted in CALLS:
            for handed in ways_handed(names):
                before = exact(list(handed.values()))
                with self.subTest(call.__name__, handed=handed):
                    emptied(call(**handed))
                    self.same(call(**handed), wanted)
                    self.assertEqual(exact(list(handed.values())), before)

    def test_no_two_told_lists_are_one_and_the_same(self):
        for call, names, wanted in CALLS:
            for handed in ways_handed(names):
                with self.subTest(call.__name__, handed=handed):
                    one, other = call(**handed), call(**handed)
                    told = lists_in(one) + lists_in(other)
                    self.assertEqual(len({id(part) for part in told}), len(told))
                    within = {id(part) for worth in handed.values() for part in lists_in(worth)}
                    self.assertFalse([part for part in told if id(part) in within])

    def test_somewhat_beyond_the_bounds(self):
        canal = (12, 11, tuple((k % 12, (k + 5) % 12, k % 11, (k + 3) % 11) for k in range(14)))
        standing = ((10 ** 13,) * 12, (0,) * 11, (0,) * 14)
        self.same(may_go(canal, standing), [(lock, "red") for lock in range(14)])
        self.same(gone(canal, standing, (13, "red"))[0], (10 ** 13, 10 ** 13 - 1) + (10 ** 13,) * 4 + (10 ** 13 + 1,) + (10 ** 13,) * 5)
        self.same(exchanged(exchanged(canal)), canal)
        self.same(pieces(canal, "red"), [tuple(range(12))])
        self.same(together(canal, canal)[:2], (24, 22))
        self.same(went(canal, standing, [(3, "red")] * 451)[0][3], 1)

    def told_of_all(self, canal, one, other, last):
        """All that is told of these is right, and may be handed in again; last has no counts of one."""
        self.assertTrue(fits(canal, one, other, counts(canal, one, other)))
        self.assertIs(shows_counts(canal, one, other, counts(canal, one, other)), True)
        self.assertIs(counts(canal, one, last), None)
        self.assertTrue(bars(canal, one, last, bar(canal, one, last)))
        self.assertIs(shows_bar(canal, one, last, bar(canal, one, last)), True)
        self.assertIs(bar(canal, one, other), None)
        self.same(lots(canal, [one, last, other]), [[0, 2], [1]])
        for heights in scales(canal):
            self.assertTrue(are_heights(canal, heights))
            self.assertIs(is_heights(canal, heights), True)
            self.same(weight(canal, heights, one), weight(canal, heights, other))
        for turn in rounds(canal):
            self.assertTrue(goes_round(canal, turn))
            self.assertIs(shows_round(canal, turn), True)
        for lock, pair in enumerate(almanac(canal, one, other)):
            self.assertEqual(lock in sure(canal), pair is not None)
            self.assertEqual(stride(canal, lock), known(canal, lock, one, other)[1])
            if pair is None:
                self.assertIs(teller(canal, lock), None)
                self.assertIs(shows_round(canal, round_by(canal, lock)), True)
            else:
                self.assertTrue(tells(canal, lock, teller(canal, lock)))
                self.assertIs(shows_teller(canal, lock, teller(canal, lock)), True)

    def test_rows_and_small_ones_somewhat_beyond_the_bounds(self):
        beyond = (12, 11, tuple((k % 12, (k + 5) % 12, k % 11, (k + 3) % 11) for k in range(14)))
        rich, tolls = ((10 ** 14,) * 12, (10 ** 14,) * 11, (0, 1) * 7), [(10 ** 13, -(10 ** 13))] * 14
        numbers = [10 ** 13, -(10 ** 13)] * 7
        last = moved(beyond, rich, numbers, (1, 1) * 7)
        self.same(how_many(beyond, rich, last, numbers), 28 * 10 ** 13 - 7)
        self.same(is_enough(beyond, rich, last, numbers), True)
        highs = [there - here for here, there in zip(rich[2], last[2])]
        really = 10 ** 13 * sum(2 * number - high for number, high in zip(numbers, highs))
        what, by = paid(beyond, tolls, rich, last)
        self.assertTrue(is_multiple(really - what, by))
        self.same(paid_by(beyond, tolls, rich, [(0, "red"), (0, "blue")] * 225), 450 * 10 ** 13)
        self.same(len(plain_row(beyond, rich, moved(beyond, rich, [20] * 14, rich[2]), [20] * 14)), 560)
        self.refused(TooMany, "many", 400, lot_of, beyond, rich)
        alone = (10 ** 14,) + (0,) * 11, (0,) * 11, (0,) * 14
        self.same(asleep(beyond, alone, "red"), [])
        self.same(woken(beyond, alone, "red", 10), [(0, "red"), (5, "red")])
        self.same(row_alone(beyond, alone, gone(beyond, alone, (0, "red")), "red"), [(0, "red")])

    def test_at_the_bounds_and_somewhat_beyond(self):
        chance = random.Random(90)
        beyond = (12, 11, tuple((k % 12, (k + 5) % 12, k % 11, (k + 3) % 11) for k in range(14)))
        for canal in (FULL, ring_of(8), beyond, ring_of(14), exchanged(ring_of(13)), large_canal(chance)):
            for boats in (10 ** 12, 10 ** 13):
                one, other, numbers = some_pair(chance, canal, boats)
                with self.subTest((canal, one, other)):
                    self.told_of_all(canal, one, other, changed(other, 0, 0, 1))
                    self.told_of_all(canal, one, other, changed(other, 1, 1, -1))
