import random

from crosslocks.errors import BadRow
from crosslocks.texts import canal_in, canal_text, standing_in, standing_text
from tests.apart import all_canals, large_canal
from tests.samples import BARE, FULL, RING, WIDE, Case, listed, many_standings, mixed, some_standing, tupled

# Words that aren't numbers so written.
NO_NUMBERS = [
    "", "00", "01", "007", "10000000000000", "00000000000001", "-1", "+1", "-0", "1.0", "1e3", "1_0", "x", "a1", "1a", "one",
    "\t1", "1\t", "\u0661", "\u00b2", "\uff11", "0x1", "True", "None", ",", "1,"]
RING_TEXT = "canal 3 3\nlock 0 1 0 1\nlock 1 2 1 2\nlock 2 0 2 0"
STANDING = (1, 0, 22), (0, 0, 10 ** 12), (0, 1, 0)
STANDING_TEXT = "reds 1 0 22\nblues 0 0 1000000000000\nlocks 0 1 0"


def spoilt_rows(row):
    """A row that isn't so written, in many ways."""
    words = row.split(" ")
    yield from ("", " ", "x", row + " ", " " + row, row + "  ", row.upper(), row + "\t", row + "\r", row + ";")
    yield from (row.replace(" ", "  ", 1), row.replace(" ", "\t", 1), words[0] + "s" + row[len(words[0]):], row[1:])
    for at in range(1, len(words)):
        yield " ".join(words[:at] + words[at + 1:])
        for word in NO_NUMBERS:
            yield " ".join(words[:at] + [word] + words[at + 1:])
    yield row + " 0"
    yield row + " 1"


class TextCase(Case):
    def bad_row(self, at, call, *handed):
        with self.subTest(handed):
            self.refused(BadRow, "at", at, call, *handed)


class CanalText(TextCase):
    def test_by_hand(self):
        self.same(canal_text(RING), RING_TEXT)
        self.same(canal_text(BARE), "canal 1 1")
        self.same(canal_text(WIDE), "canal 4 2\nlock 0 2 1 0\nlock 3 3 0 1")
        self.same(canal_text((10 ** 12, 1, ((10 ** 12 - 1, 0, 0, 0),))), "canal 1000000000000 1\nlock 999999999999 0 0 0")

    def test_what_is_written_is_read_again(self):
        chance = random.Random(700)
        for canal in all_canals() + [large_canal(chance), FULL, (10 ** 12, 10 ** 12, ((10 ** 12 - 1, 5, 0, 10 ** 12 - 1),))]:
            for make in (tupled, listed, mixed):
                self.same(canal_in(canal_text(make(canal))), tupled(canal))

    def test_a_row_for_each(self):
        for canal in all_canals(20):
            rows = canal_text(canal).split("\n")
            self.same(rows[0], f"canal {canal[0]} {canal[1]}")
            self.same(rows[1:], ["lock " + " ".join(map(str, lock)) for lock in canal[2]])


class CanalIn(TextCase):
    def test_by_hand(self):
        self.same(canal_in(RING_TEXT), RING)
        self.same(canal_in("canal 1 1"), BARE)
        self.same(canal_in("canal 9999999999999 9999999999999\nlock 9999999999998 0 0 9999999999998"),
                  (9999999999999, 9999999999999, ((9999999999998, 0, 0, 9999999999998),)))

    def test_of_any_size(self):
        rows = ["canal 20 30"] + [f"lock {at % 20} {at * 7 % 20} {at % 30} {at * 11 % 30}" for at in range(500)]
        told = canal_in("\n".join(rows))
        self.same(told[:2], (20, 30))
        self.same(len(told[2]), 500)
        self.same(told[2][499], (19, 3493 % 20, 499 % 30, 5489 % 30))

    def test_the_bare_text(self):
        self.bad_row(0, canal_in, "")

    def test_the_first_row_that_is_not_so_written(self):
        rows = RING_TEXT.split("\n")
        for at, row in enumerate(rows):
            for wrong in spoilt_rows(row):
                self.bad_row(at, canal_in, "\n".join(rows[:at] + [wrong] + rows[at + 1:]))
                self.bad_row(at, canal_in, "\n".join(rows[:at] + [wrong]))
                self.bad_row(at, canal_in, "\n".join(rows[:at] + [wrong] + ["x"] * 3))

    def test_from_1(self):
        for row in ("canal 0 1", "canal 1 0", "canal 0 0"):
            self.bad_row(0, canal_in, row)
            self.bad_row(0, canal_in, row + "\nlock 0 0 0 0")

    def test_a_basin_that_is_not_there(self):
        for wrong in ("lock 2 0 0 0", "lock 0 2 0 0", "lock 0 0 3 0", "lock 0 0 0 3", "lock 9999999999999 0 0 0"):
            self.bad_row(2, canal_in, "canal 2 3\nlock 1 1 2 2\n" + wrong + "\nlock 5 5 5 5")
            self.bad_row(1, canal_in, "canal 2 3\n" + wrong)

    def test_rows_of_other_words(self):
        for wrong in ("canal 3 3", "reds 1 2 3 4", "locks 0 0 0 0", "0 0 0 0", "lock"):
            self.bad_row(4, canal_in, RING_TEXT + "\n" + wrong)
        self.bad_row(0, canal_in, "lock 0 0 0 0")
        self.bad_row(0, canal_in, "\n" + RING_TEXT)
        self.bad_row(4, canal_in, RING_TEXT + "\n")
        self.bad_row(4, canal_in, RING_TEXT + "\n\n")
        self.bad_row(1, canal_in, RING_TEXT.replace("\n", "\n\n"))
        self.bad_row(0, canal_in, RING_TEXT.replace("\n", "\r\n"))
        self.bad_row(0, canal_in, RING_TEXT.replace("\n", "\r"))


class StandingText(TextCase):
    def test_by_hand(self):
        self.same(standing_text(STANDING), STANDING_TEXT)
        self.same(standing_text(((5,), (0,), ())), "reds 5\nblues 0\nlocks")

    def test_what_is_written_is_read_again(self):
        chance = random.Random(701)
        pairs = many_standings(40) + [(canal, some_standing(chance, canal, 10 ** 12)) for canal in all_canals(20)]
        pairs.append((FULL, ((9999999999999,) * 8, (10 ** 12,) * 8, (1, 0) * 5)))
        for canal, standing in pairs:
            for make in (tupled, listed, mixed):
                self.same(standing_in(make(canal), standing_text(make(standing))), standing)


class StandingIn(TextCase):
    def test_by_hand(self):
        self.same(standing_in(RING, STANDING_TEXT), STANDING)
        self.same(standing_in(listed(RING), STANDING_TEXT), STANDING)
        self.same(standing_in(BARE, "reds 9999999999999\nblues 0\nlocks"), ((9999999999999,), (0,), ()))

    def test_the_bare_text(self):
        self.bad_row(0, standing_in, RING, "")
        self.bad_row(0, standing_in, BARE, "")

    def test_the_first_row_that_is_not_so_written(self):
        rows = STANDING_TEXT.split("\n")
        for at, row in enumerate(rows):
            for wrong in spoilt_rows(row):
                self.bad_row(at, standing_in, RING, "\n".join(rows[:at] + [wrong] + rows[at + 1:]))
                self.bad_row(at, standing_in, RING, "\n".join(rows[:at] + [wrong]))
                self.bad_row(at, standing_in, RING, "\n".join(rows[:at] + [wrong] + ["x"] * 3))
        for wrong in ("locks ", "locks 0", "lock", "", "locks -", " locks", "locks  "):
            self.bad_row(2, standing_in, BARE, "reds 0\nblues 0\n" + wrong)

    def test_has_not_as_many(self):
        self.bad_row(0, standing_in, WIDE, "reds 0 0 0\nblues 0 0\nlocks 0 0")
        self.bad_row(0, standing_in, WIDE, "reds 0 0 0 0 0\nblues 0 0\nlocks 0 0")
        self.bad_row(1, standing_in, WIDE, "reds 0 0 0 0\nblues 0\nlocks 0 0")
        self.bad_row(1, standing_in, WIDE, "reds 0 0 0 0\nblues 0 0 0 0\nlocks 0 0")
        self.bad_row(2, standing_in, WIDE, "reds 0 0 0 0\nblues 0 0\nlocks 0")
        self.bad_row(2, standing_in, WIDE, "reds 0 0 0 0\nblues 0 0\nlocks")
        self.bad_row(2, standing_in, WIDE, "reds 0 0 0 0\nblues 0 0\nlocks 0 0 0")
        self.bad_row(0, standing_in, (10 ** 13, 1, ()), "reds 0\nblues 0\nlocks")

    def test_stands_beyond_1(self):
        for wrong in ("2 0 0", "0 2 0", "0 0 2", "1 1 9999999999999"):
            self.bad_row(2, standing_in, RING, "reds 0 0 0\nblues 0 0 0\nlocks " + wrong)
            self.bad_row(2, standing_in, RING, "reds 0 0 0\nblues 0 0 0\nlocks " + wrong + "\nx")

    def test_a_row_too_many(self):
        for wrong in ("locks 0 1 0", "", "reds 1 0 22", "x", "\n"):
            self.bad_row(3, standing_in, RING, STANDING_TEXT + "\n" + wrong)
        self.bad_row(3, standing_in, RING, STANDING_TEXT + "\n" + STANDING_TEXT)

    def test_a_row_that_lacks(self):
        rows = STANDING_TEXT.split("\n")
        self.bad_row(1, standing_in, RING, rows[0])
        self.bad_row(2, standing_in, RING, "\n".join(rows[:2]))
        self.bad_row(1, standing_in, RING, rows[0] + "\n" + rows[2])
        self.bad_row(0, standing_in, RING, rows[1] + "\n" + rows[2])
        self.bad_row(0, standing_in, RING, "\n".join(rows[::-1]))
