from crosslocks import errors
from tests.samples import Case

TOLD = [
    ("BadRow", ValueError, "at"),
    ("Loose", ValueError, "lock"),
    ("Others", ValueError, "basin"),
    ("NoLock", LookupError, "lock"),
    ("NoBasin", LookupError, "basin"),
    ("NoDeed", LookupError, "many"),
    ("NoBoat", RuntimeError, "going"),
    ("NoCounts", RuntimeError, None),
    ("Short", RuntimeError, "many"),
    ("TooMany", OverflowError, "many"),
]
ANYTHING = [
    0, 1, -1, 400, 10 ** 12, -(10 ** 30), True, False, None, "", "red", "a {} b",
    (), (0, "red"), (1, "blue"), [], [0, "red"], ((1, [2]), None), [[[]]]]


class Errors(Case):
    def test_straight_under_the_told_class(self):
        for name, base, field in TOLD:
            with self.subTest(name):
                self.assertEqual(getattr(errors, name).__bases__, (base,))
                self.assertEqual(getattr(errors, name).__name__, name)

    def test_under_none_of_the_others(self):
        for name, base, field in TOLD:
            for other in [row[0] for row in TOLD if row[0] != name]:
                with self.subTest(name, other=other):
                    self.assertFalse(issubclass(getattr(errors, name), getattr(errors, other)))
            for other in {row[1] for row in TOLD if row[1] is not base}:
                with self.subTest(name, other=other.__name__):
                    self.assertFalse(issubclass(getattr(errors, name), other))

    def test_made_by_place(self):
        for name, base, field in TOLD:
            for thing in ANYTHING if field else []:
                with self.subTest(name, thing=thing):
                    self.same(getattr(getattr(errors, name)(thing), field), thing)

    def test_made_by_name(self):
        for name, base, field in TOLD:
            for thing in ANYTHING if field else []:
                with self.subTest(name, thing=thing):
                    self.same(getattr(getattr(errors, name)(**{field: thing}), field), thing)

    def test_no_counts_is_made_of_nothing(self):
        self.assertIsInstance(errors.NoCounts(), RuntimeError)

    def test_raised_and_caught_by_its_own_name_and_by_the_told_class(self):
        for name, base, field in TOLD:
            for caught in (getattr(errors, name), base):
                with self.subTest(name, caught=caught.__name__):
                    with self.assertRaises(caught):
                        raise getattr(errors, name)(*([7] if field else []))

    def test_two_of_a_class_have_a_field_each(self):
        for name, base, field in TOLD:
            if field:
                with self.subTest(name):
                    one, other = getattr(errors, name)(1), getattr(errors, name)(2)
                    self.same([getattr(one, field), getattr(other, field)], [1, 2])

    def test_a_refusal_can_be_written_out(self):
        for name, base, field in TOLD:
            with self.subTest(name):
                refusal = getattr(errors, name)(*([7] if field else []))
                self.assertIsInstance(str(refusal), str)
                self.assertIsInstance(repr(refusal), str)
