"""A desk: a text of a canal, of its standing, and of deeds and asks of a Keep, answered one by one."""

from crosslocks.counts import sure
from crosslocks.errors import BadRow, NoBasin, NoBoat, NoLock, Short
from crosslocks.goings import may_go
from crosslocks.keep import Keep
from crosslocks.measures import measures
from crosslocks.texts import canal_rows, number_in, standing_rows, standing_text
from crosslocks.words import BLUE, RED

# What stands behind each word: a water, a number, or a number from 1, how many.
FORMS = {
    "go": ("number", "water"), "fill": ("water", "number", "many"), "drain": ("water", "number", "many"),
    "turn": ("number",), "dig": ("number", "number", "number", "number"), "undo": (),
    "standing": (), "may": (), "almanac": (), "sure": (), "measures": (), "hands": ()}


def joined(sign, texts):
    """The texts with the sign between; `-` of none."""
    return sign.join(texts) if texts else "-"


def by_blanks(numbers):
    return joined(" ", [str(number) for number in numbers])


def answer_go(kept, handed):
    lock, water = handed
    kept.go(lock, water)
    return "done"


def answer_fill(kept, handed):
    water, basin, many = handed
    kept.fill(water, basin, many)
    return "done"


def answer_drain(kept, handed):
    water, basin, many = handed
    kept.drain(water, basin, many)
    return "done"


def answer_turn(kept, handed):
    kept.turn(handed[0])
    return "done"


def answer_dig(kept, handed):
    a, c, x, y = handed
    return str(kept.dig(a, c, x, y))


def answer_undo(kept, handed):
    return "yes" if kept.undo() else "no"


def answer_standing(kept, handed):
    return standing_text(kept.standing()).replace("\n", "; ")


def answer_may(kept, handed):
    return joined("; ", [f"{lock} {water}" for lock, water in may_go(kept.canal(), kept.standing())])


def answer_almanac(kept, handed):
    return joined("; ", ["-" if pair is None else by_blanks(pair) for pair in kept.almanac()])


def answer_sure(kept, handed):
    return by_blanks(sure(kept.canal()))


def answer_measures(kept, handed):
    return by_blanks(measures(kept.canal()))


def answer_hands(kept, handed):
    return joined("; ", [by_blanks(part) for part in kept.hands()])


ANSWERS = {
    "go": answer_go, "fill": answer_fill, "drain": answer_drain, "turn": answer_turn, "dig": answer_dig,
    "undo": answer_undo, "standing": answer_standing, "may": answer_may, "almanac": answer_almanac,
    "sure": answer_sure, "measures": answer_measures, "hands": answer_hands}


def worth_in(form, word):
    """What a word means by its form; None where it isn't so written."""
    if form == "water":
        return word if word in (RED, BLUE) else None
    number = number_in(word)
    return None if form == "many" and number == 0 else number


def order_in(rows, at):
    """The pair of the word of row at and the list of what stands behind it; BadRow."""
    words = rows[at].split(" ")
    forms = FORMS.get(words[0])
    if forms is None or len(forms) != len(words) - 1:
        raise BadRow(at)
    handed = [worth_in(form, word) for form, word in zip(forms, words[1:])]
    if None in handed:
        raise BadRow(at)
    return words[0], handed


def answer(kept, order):
    """The text that a row is answered with."""
    word, handed = order
    action = ANSWERS[word]
    # No other refusal comes of these: what really went are COUNTS, so an almanac always has some.
    try:
        return action(kept, handed)
    except NoLock:
        return "refused NoLock"
    except NoBoat:
        return "refused NoBoat"
    except NoBasin:
        return "refused NoBasin"
    except Short:
        return "refused Short"


def canal_end(rows):
    """The number of the first row that isn't the canal's any more."""
    at = 1
    while at < len(rows) and rows[at].split(" ")[0] == "lock":
        at += 1
    return at


def answers(text):
    """The list of a text for each deed and ask; BadRow ahead of all."""
    rows = text.split("\n")
    at = canal_end(rows)
    canal = canal_rows(rows[:at])
    standing = standing_rows(canal, rows, at)
    orders = [order_in(rows, place) for place in range(at + 3, len(rows))]
    kept = Keep(canal, standing)
    return [answer(kept, order) for order in orders]
