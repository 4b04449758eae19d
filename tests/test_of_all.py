"""What holds of all functions: how they're handed things, and whose is what they tell."""

import copy

from crosslocks.canals import exchanged, exchanged_standing, is_canal, is_standing, pieces, together
from crosslocks.errors import NoBoat
from crosslocks.goings import gone, gone_all, may_go, went
from tests.samples import FULL, LOOPS, RING, WIDE, Case, emptied, exact, listed, mixed, tupled

STANDING = ((1, 0, 2), (0, 1, 1), (0, 1, 0))
MANY = ((10 ** 12,) * 8, (10 ** 12,) * 8, (0, 1) * 5)
ROW = [(0, "red"), (0, "red"), (2, "blue"), (2, "red")]

# Each is what is called, what it's handed by the names that the document tells, what it tells.
CALLS = [
    (is_canal, {"thing": RING}, True),
    (is_canal, {"thing": listed(RING)}, False),
    (is_standing, {"canal": RING, "thing": STANDING}, True),
    (is_standing, {"canal": RING, "thing": listed(STANDING)}, False),
    (exchanged, {"canal": WIDE}, (2, 4, ((1, 0, 0, 2), (0, 1, 3, 3)))),
    (exchanged_standing, {"standing": STANDING}, ((0, 1, 1), (1, 0, 2), (0, 1, 0))),
    (together, {"one": LOOPS, "other": WIDE},
     (6, 3, ((0, 0, 0, 0), (1, 1, 0, 0), (0, 1, 0, 0), (2, 4, 2, 1), (5, 5, 1, 2)))),
    (pieces, {"canal": WIDE, "water": "red"}, [(0, 2), (1,), (3,)]),
    (pieces, {"canal": WIDE, "water": "blue"}, [(0, 1)]),
    (may_go, {"canal": RING, "standing": STANDING}, [(0, "red"), (1, "red"), (1, "blue"), (2, "red"), (2, "blue")]),
    (gone, {"canal": RING, "standing": STANDING, "going": (0, "red")}, ((0, 1, 2), (0, 1, 1), (1, 1, 0))),
    (gone_all, {"canal": RING, "standing": STANDING, "row": ROW}, ((0, 0, 3), (1, 1, 0), (0, 1, 0))),
    (gone_all, {"canal": RING, "standing": STANDING, "row": []}, STANDING),
    (went, {"canal": RING, "standing": STANDING, "row": ROW}, ([0, 0, -1], [0, 0, 1])),
    (went, {"canal": RING, "standing": STANDING, "row": []}, ([0, 0, 0], [0, 0, 0])),
    (may_go, {"canal": FULL, "standing": MANY}, [(lock, water) for lock in range(10) for water in ("red", "blue")]),
    (exchanged_standing, {"standing": MANY}, MANY),
]
REFUSED = [
    (gone, {"canal": RING, "standing": STANDING, "going": (0, "blue")}, (0, "blue")),
    (gone_all, {"canal": RING, "standing": STANDING, "row": [(0, "red"), (0, "blue")] * 2}, (0, "red")),
    (went, {"canal": RING, "standing": STANDING, "row": [(0, "red"), (0, "blue")] * 2}, (0, "red")),
]


def lists_in(thing):
    """All lists of a thing, at any depth."""
    if not isinstance(thing, (list, tuple)):
        return []
    within = [found for part in thing for found in lists_in(part)]
    return [thing] + within if isinstance(thing, list) else within


def ways_handed(names):
    """The same arguments as tuples, as lists and mixed, the thing that's asked of as it is; each anew."""
    for make in (tupled, listed, mixed):
        yield {name: copy.deepcopy(worth) if name == "thing" else make(worth) for name, worth in names.items()}


class OfAll(Case):
    def test_by_places(self):
        for call, names, wanted in CALLS:
            for handed in ways_handed(names):
                with self.subTest(call.__name__, handed=handed):
                    self.same(call(*handed.values()), wanted)

    def test_by_names_in_any_order(self):
        for call, names, wanted in CALLS:
            for handed in ways_handed(names):
                with self.subTest(call.__name__, handed=handed):
                    self.same(call(**handed), wanted)
                    self.same(call(**dict(reversed(handed.items()))), wanted)

    def test_first_by_place_and_others_by_name(self):
        for call, names, wanted in CALLS:
            for handed in ways_handed(names):
                first = handed.pop(list(handed)[0])
                with self.subTest(call.__name__, first=first, handed=handed):
                    self.same(call(first, **handed), wanted)

    def test_what_is_handed_in_stays_as_it_was(self):
        for call, names, wanted in CALLS:
            for handed in ways_handed(names):
                before = exact(list(handed.values()))
                with self.subTest(call.__name__, handed=handed):
                    call(**handed)
                    self.assertEqual(exact(list(handed.values())), before)

    def test_refused_by_places_and_names_and_nothing_is_changed(self):
        for call, names, going in REFUSED:
            for handed in ways_handed(names):
                before = exact(list(handed.values()))
                with self.subTest(call.__name__, handed=handed):
                    self.refused(NoBoat, "going", going, call, *handed.values())
                    self.refused(NoBoat, "going", going, call, **dict(reversed(handed.items())))
                    self.assertEqual(exact(list(handed.values())), before)

    def test_what_is_handed_in_is_not_kept(self):
        for call, names, wanted in CALLS:
            for handed in ways_handed(names):
                with self.subTest(call.__name__, handed=handed):
                    told = call(**handed)
                    for worth in handed.values():
                        emptied(worth)
                    self.same(told, wanted)
                    self.same(call(**names), wanted)

    def test_what_a_refusal_has_is_not_kept(self):
        for call, names, going in REFUSED:
            for handed in ways_handed(names):
                with self.subTest(call.__name__, handed=handed):
                    with self.assertRaises(NoBoat) as caught:
                        call(**handed)
                    for worth in handed.values():
                        emptied(worth)
                    self.same(caught.exception.going, going)

    def test_what_is_told_is_the_askers_own(self):
        for call, names, wanted in CALLS:
            for handed in ways_handed(names):
                before = exact(list(handed.values()))
                with self.subTest(call.__name__, handed=handed):
                    emptied(call(**handed))
                    self.same(call(**handed), wanted)
                    self.assertEqual(exact(list(handed.values())), before)

    def test_no_two_told_lists_are_one_and_the_same(self):
        for call, names, wanted in CALLS:
            for handed in ways_handed(names):
                with self.subTest(call.__name__, handed=handed):
                    one, other = call(**handed), call(**handed)
                    told = lists_in(one) + lists_in(other)
                    self.assertEqual(len({id(part) for part in told}), len(told))
                    within = {id(part) for worth in handed.values() for part in lists_in(worth)}
                    self.assertFalse([part for part in told if id(part) in within])

    def test_somewhat_beyond_the_bounds(self):
        canal = (12, 11, tuple((k % 12, (k + 5) % 12, k % 11, (k + 3) % 11) for k in range(14)))
        standing = ((10 ** 13,) * 12, (0,) * 11, (0,) * 14)
        self.same(may_go(canal, standing), [(lock, "red") for lock in range(14)])
        self.same(gone(canal, standing, (13, "red"))[0], (10 ** 13, 10 ** 13 - 1) + (10 ** 13,) * 4 + (10 ** 13 + 1,) + (10 ** 13,) * 5)
        self.same(exchanged(exchanged(canal)), canal)
        self.same(pieces(canal, "red"), [tuple(range(12))])
        self.same(together(canal, canal)[:2], (24, 22))
        self.same(went(canal, standing, [(3, "red")] * 451)[0][3], 1)
