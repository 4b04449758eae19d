import random

from crosslocks.counts import sure
from crosslocks.desk import answers
from crosslocks.errors import BadRow
from crosslocks.measures import measures
from tests.apart import KINDS, all_canals
from tests.model import Model, Refused, some_deed
from tests.samples import BARE, LOOPS, RING, Case, after, some_standing
from tests.test_texts import NO_NUMBERS, spoilt_rows

RING_TEXT = "canal 3 3\nlock 0 1 0 1\nlock 1 2 1 2\nlock 2 0 2 0\nreds 1 0 0\nblues 0 2 0\nlocks 0 0 1"
BARE_TEXT = "canal 1 1\nreds 2\nblues 0\nlocks"
# Each with what is told of it behind the text above.
ORDERS = [
    ("go 0 red", "done"), ("go 1 blue", "done"), ("fill red 2 10", "done"), ("drain blue 1 2", "done"), ("turn 2", "done"),
    ("dig 0 1 2 2", "3"), ("undo", "no"), ("standing", "reds 1 0 0; blues 0 2 0; locks 0 0 1"), ("may", "0 red; 1 blue; 2 red"),
    ("almanac", "-; -; -"), ("sure", "-"), ("measures", "0 0 0 0"), ("hands", "0 0 0; 0 0 0; 0 0 0"),
    ("go 0 blue", "refused NoBoat"), ("go 3 red", "refused NoLock"), ("fill blue 3 1", "refused NoBasin"),
    ("drain red 3 1", "refused NoBasin"), ("drain red 0 2", "refused Short"), ("turn 3", "refused NoLock"),
    ("dig 0 3 0 0", "refused NoBasin")]


def listed_text(numbers):
    return " ".join(str(number) for number in numbers) or "-"


def standing_text_of(standing):
    return "; ".join(" ".join([word, *map(str, part)]) for word, part in zip(("reds", "blues", "locks"), standing))


def text_of(canal, standing):
    rows = [f"canal {canal[0]} {canal[1]}"] + [f"lock {a} {c} {x} {y}" for a, c, x, y in canal[2]]
    return "\n".join(rows + standing_text_of(standing).split("; "))


def model_answer(model, word, *handed):
    """What the desk tells, by the model."""
    try:
        told = model.do(word, *handed)
    except Refused as refusal:
        return "refused " + refusal.name
    if word == "undo":
        return "yes" if told else "no"
    return "done" if told is None else str(told)


def model_ask(model, word):
    if word == "standing":
        return standing_text_of(model.standing())
    if word == "may":
        goings = [(lock, water) for lock in range(len(model.canal()[2])) for water in ("red", "blue")]
        goings = [going for going in goings if after(model.canal(), model.standing(), going) is not None]
        return "; ".join(f"{lock} {water}" for lock, water in goings) or "-"
    if word == "almanac":
        return "; ".join("-" if pair is None else f"{pair[0]} {pair[1]}" for pair in model.almanac()) or "-"
    if word == "hands":
        return "; ".join(listed_text(part) for part in model.hands())
    return listed_text(sure(model.canal()) if word == "sure" else measures(model.canal()))


ASKS = ("standing", "may", "almanac", "sure", "measures", "hands")


class Answers(Case):
    def test_each_row_done_and_refused(self):
        for row, told in ORDERS:
            with self.subTest(row):
                self.same(answers(RING_TEXT + "\n" + row), [told])
                self.same(answers(text=RING_TEXT + "\n" + row), [told])

    def test_nothing_asked(self):
        self.same(answers(RING_TEXT), [])
        self.same(answers(BARE_TEXT), [])

    def test_one_by_one(self):
        rows = "go 0 red\nstanding\ngo 0 red\ngo 0 red\nhands\nturn 0\nhands\nundo\nundo\nundo\nundo\nundo\nstanding"
        self.same(answers(RING_TEXT + "\n" + rows), [
            "done", "reds 0 1 0; blues 0 2 0; locks 1 0 1", "done", "done", "0 0 0; 0 0 0; 0 0 0", "done", "0 0 0; 0 0 0; -1 0 0",
            "yes", "yes", "yes", "yes", "no", "reds 1 0 0; blues 0 2 0; locks 0 0 1"])
        rows = "dig 0 2 0 0\ndig 0 0 1 2\nstanding\nturn 4\nfill blue 2 9999999999999\ndrain red 0 1\nhands\nundo\nundo\nundo\nundo\ndig 1 1 1 1"
        self.same(answers(RING_TEXT + "\n" + rows), [
            "3", "4", "reds 1 0 0; blues 0 2 0; locks 0 0 1 0 0", "done", "done", "done", "-1 0 0; 0 0 9999999999999; 0 0 0 0 1",
            "yes", "yes", "yes", "yes", "4"])

    def test_a_lone_dash(self):
        self.same(answers(BARE_TEXT + "\nmay\nalmanac\nsure\nmeasures\nhands\nstanding"), [
            "-", "-", "-", "0 0", "0; 0; -", "reds 2; blues 0; locks"])
        loops = "canal 2 1\nlock 0 0 0 0\nlock 1 1 0 0\nlock 0 1 0 0\nreds 1 0\nblues 0\nlocks 0 0 0\n"
        self.same(answers(loops + "go 2 red\nalmanac\nsure\nmeasures"), ["done", "-; -; 1 0", "2", "0 0"])

    def test_no_measures(self):
        # All red boats and all blue ones are as many as ever, so there are always measures; here just these two.
        self.same(answers("canal 2 1\nlock 0 1 0 0\nreds 0 0\nblues 0\nlocks 0\nmeasures"), ["0 0"])
        ring = "canal 3 2\nlock 0 1 0 1\nlock 1 2 0 1\nlock 2 0 0 1\nreds 0 0 1\nblues 0 1\nlocks 0 0 0\n"
        self.same(answers(ring + "measures\nsure"), ["3 0 0", "0 1 2"])

    def test_numbers_below_0(self):
        lock = "canal 2 2\nlock 0 1 0 1\nreds 0 1\nblues 0 1\nlocks 1\n"
        self.same(answers(lock + "go 0 red\nalmanac\nturn 0\ngo 0 blue\nalmanac\nhands\ndrain red 0 1\nhands\nturn 0\nturn 0\nhands"), [
            "done", "-1 0", "done", "done", "-1 -1", "0 0; 0 0; 1", "done", "-1 0; 0 0; 1", "done", "done", "-1 0; 0 0; 1"])
        self.same(answers(lock + "turn 0\nhands\nalmanac"), ["done", "0 0; 0 0; -1", "0 0"])

    def test_numbers_that_are_written_but_not_there(self):
        big = "9999999999999"
        self.same(answers(BARE_TEXT + f"\ngo {big} red\nfill red {big} 1\ndrain red 0 {big}\nturn {big}\ndig 0 0 0 {big}\nfill red 0 {big}\nstanding"), [
            "refused NoLock", "refused NoBasin", "refused Short", "refused NoLock", "refused NoBasin", "done", "reds 10000000000001; blues 0; locks"])

    def test_which_of_several(self):
        self.same(answers(BARE_TEXT + "\ndrain blue 1 5\ngo 0 blue"), ["refused NoBasin", "refused NoLock"])

    def test_against_the_model(self):
        chance = random.Random(710)
        refused = 0
        for canal in [RING, LOOPS, BARE, *KINDS[:6], *all_canals(4)]:
            standing = some_standing(chance, canal, 2)
            model, rows, wanted = Model(canal, standing), [], []
            for _ in range(30):
                if chance.random() < 0.5:
                    rows.append(chance.choice(ASKS))
                    wanted.append(model_ask(model, rows[-1]))
                    continue
                deed = some_deed(chance, model)
                if deed[0] != "row" and all(part == abs(part) < 10 ** 13 for part in deed[1:] if isinstance(part, int)):
                    rows.append(" ".join(map(str, deed)))
                    wanted.append(model_answer(model, *deed))
            refused += sum(answer.startswith("refused") for answer in wanted)
            with self.subTest((canal, standing, rows)):
                self.same(answers("\n".join([text_of(canal, standing)] + rows)), wanted)
        self.assertGreater(refused, 30)

    def test_sixty_rows(self):
        canal = "canal 8 8\n" + "lock 0 7 7 0\n" * 10 + "reds 1" + " 0" * 7 + "\nblues" + " 1000000000000" * 8 + "\nlocks" + " 0" * 10
        rows = "\n".join(["go 0 red", "go 0 red"] * 23)
        self.same(len((canal + "\n" + rows).split("\n")), 60)
        self.same(answers(canal + "\n" + rows), ["done"] * 46)
        self.same(answers(canal + "\n" + "\n".join(["undo", "standing"] * 100))[::2], ["no"] * 100)

    def test_what_is_told_is_the_askers_own(self):
        told = answers(RING_TEXT + "\nundo\nundo")
        told.clear()
        self.same(answers(RING_TEXT + "\nundo\nundo"), ["no", "no"])


class BadRows(Case):
    def bad_row(self, at, text):
        with self.subTest(text):
            self.refused(BadRow, "at", at, answers, text)

    def test_the_bare_text_and_rows_that_lack(self):
        rows = RING_TEXT.split("\n")
        self.bad_row(0, "")
        for many in range(1, len(rows)):
            self.bad_row(many, "\n".join(rows[:many]))
        self.bad_row(1, "canal 1 1")
        self.bad_row(2, "canal 1 1\nreds 0")
        self.bad_row(3, "canal 1 1\nreds 0\nblues 0")

    def test_of_the_canal_and_of_the_standing(self):
        rows = RING_TEXT.split("\n")
        for at, row in enumerate(rows):
            for wrong in spoilt_rows(row):
                self.bad_row(at, "\n".join(rows[:at] + [wrong] + rows[at + 1:]))
                self.bad_row(at, "\n".join(rows[:at] + [wrong] + rows[at + 1:] + ["undo", "x"]))
                self.bad_row(at, "\n".join(rows[:at] + [wrong]))
        self.bad_row(0, RING_TEXT.replace("canal 3 3", "canal 0 3"))
        self.bad_row(1, RING_TEXT.replace("lock 0 1 0 1", "lock 0 3 0 1"))
        self.bad_row(3, RING_TEXT.replace("lock 2 0 2 0", "lock 2 0 2 3"))
        self.bad_row(6, RING_TEXT.replace("locks 0 0 1", "locks 0 0 2"))
        self.bad_row(3, RING_TEXT.replace("lock 2 0 2 0\n", "").replace("locks 0 0 1", "locks 0 0").replace("reds 1 0 0", "reds 1 0"))
        self.bad_row(5, RING_TEXT.replace("lock 2 0 2 0\n", ""))

    def test_a_lock_behind_the_standing(self):
        self.bad_row(7, RING_TEXT + "\nlock 0 0 0 0")
        self.bad_row(5, RING_TEXT.replace("blues 0 2 0", "lock 0 0 0 0"))
        self.bad_row(4, RING_TEXT.replace("\nreds", "\ngo 0 red\nreds"))

    def test_each_row_that_is_not_so_written(self):
        for row, told in ORDERS:
            for wrong in ("", " ", row + " ", " " + row, row + " 0", row + " red", row.upper(), row[1:], row + "\t", row + "\r", "x" + row):
                self.bad_row(8, RING_TEXT + "\nundo\n" + wrong + "\nundo")
            words = row.split(" ")
            for at in range(1, len(words)):
                self.bad_row(7, RING_TEXT + "\n" + " ".join(words[:at] + words[at + 1:]))
                for number in NO_NUMBERS:
                    self.bad_row(7, RING_TEXT + "\n" + " ".join(words[:at] + [number] + words[at + 1:]))
            if len(words) > 1:
                self.bad_row(7, RING_TEXT + "\n" + row.replace(" ", "  ", 1))

    def test_waters_and_numbers_from_1(self):
        for wrong in ("go red 0", "go 0 green", "go 0 Red", "go 0", "go 0 red red", "go 0 0", "go red red", "fill 0 red 1",
                      "fill red 0 0", "fill blue 0 00", "fill red 0", "drain red 0 0", "drain red 1", "fill green 0 1", "turn red",
                      "turn", "turn 0 0", "dig 0 0 0", "dig 0 0 0 0 0", "dig 0 0 0 red", "undo 1", "standing 0", "may red",
                      "almanac 0", "sure 0", "measures 0", "hands 0", "row", "row 0 red", "paid", "went", "log", "twin", "as_of 0",
                      "deeds", "canal", "lock", "reds 1 0 0", "locks 0 0 1", "go -1 red", "turn -1", "dig 0 0 0 -1", "fill red 0 -1"):
            self.bad_row(7, RING_TEXT + "\n" + wrong)
            self.bad_row(9, RING_TEXT + "\nundo\nmay\n" + wrong + "\nx")

    def test_ahead_of_all(self):
        # Many rows that would be refused, and one at last that isn't so written.
        self.bad_row(10, RING_TEXT + "\ngo 9 red\ndrain red 0 9\nturn 7\nx")
        self.bad_row(8, RING_TEXT + "\nundo\n")
        self.bad_row(7, RING_TEXT + "\n")
        self.bad_row(0, "\n" + RING_TEXT)
