"""Canals and standings as texts."""

from crosslocks.canals import is_lock
from crosslocks.errors import BadRow

FIGURES = "0123456789"
MOST_FIGURES = 13


def number_in(word):
    """The number that a word is; None where it isn't so written."""
    if word == "" or len(word) > MOST_FIGURES or not all([sign in FIGURES for sign in word]):
        return None
    if word[0] == "0" and word != "0":
        return None
    return int(word)


def row_text(word, numbers):
    """A row of a word and of the numbers behind it."""
    return " ".join([word] + [str(number) for number in numbers])


def row_numbers(rows, at, word, many):
    """The so many numbers of row at behind that word; BadRow where it isn't so written, or there's no such row."""
    words = rows[at].split(" ") if at < len(rows) else []
    numbers = [number_in(each) for each in words[1:]]
    if words[:1] != [word] or len(numbers) != many or None in numbers:
        raise BadRow(at)
    return tuple(numbers)


def lock_row(rows, at, reds, blues):
    """The LOCK of row at between so many red and blue basins; BadRow."""
    lock = row_numbers(rows, at, "lock", 4)
    if not is_lock(reds, blues, lock):
        raise BadRow(at)
    return lock


def canal_rows(rows):
    """The CANAL of all these rows; BadRow."""
    reds, blues = row_numbers(rows, 0, "canal", 2)
    if reds == 0 or blues == 0:
        raise BadRow(0)
    return reds, blues, tuple([lock_row(rows, at, reds, blues) for at in range(1, len(rows))])


def standing_rows(canal, rows, at):
    """The STANDING of three rows from row at on; BadRow, counted in all rows."""
    reds = row_numbers(rows, at, "reds", canal[0])
    blues = row_numbers(rows, at + 1, "blues", canal[1])
    stands = row_numbers(rows, at + 2, "locks", len(canal[2]))
    if any([stand > 1 for stand in stands]):
        raise BadRow(at + 2)
    return reds, blues, stands


def canal_text(canal):
    """A row `canal REDS BLUES`, and a row `lock A C X Y` for each lock."""
    reds, blues, locks = canal
    return "\n".join([row_text("canal", [reds, blues])] + [row_text("lock", lock) for lock in locks])


def canal_in(text):
    """The CANAL that such a text has; BadRow."""
    return canal_rows(text.split("\n"))


def standing_text(standing):
    """The rows `reds N ..`, `blues N ..`, `locks N ..`."""
    reds, blues, stands = standing
    return "\n".join([row_text("reds", reds), row_text("blues", blues), row_text("locks", stands)])


def standing_in(canal, text):
    """The STANDING of the canal that such a text has; BadRow."""
    rows = text.split("\n")
    standing = standing_rows(canal, rows, 0)
    if len(rows) > 3:
        raise BadRow(3)
    return standing
