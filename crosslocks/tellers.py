"""What a lock tells: heights that climb apart at one lock alone, and rounds by those that can't be told."""

from crosslocks.counts import counts, form_of, rounds
from crosslocks.errors import NoCounts
from crosslocks.heights import are_climbs_of, climbs_apart, parted
from crosslocks.plain import common_part, is_number_from, is_tuple_of, less, product, reduced


def least_many(steps, parts):
    """The least number, from 1, by which times each part is a multiple of its step."""
    many = 1
    for step, part in zip(steps, parts):
        wanted = step // common_part(step, part)
        many = many * wanted // common_part(many, wanted)
    return many


def teller(canal, lock):
    """A TELLER of the lock, of the least many that there is; None of a lock that isn't sure."""
    steps, left, right = form_of(canal)
    parts = right[lock]
    if any(parts[len(steps):]):
        return None
    many = least_many(steps, parts)
    times = [many * part // step for step, part in zip(steps, parts)]
    columns = [[row[basin] for row in left] for basin in range(len(left))]
    return parted(canal, many, [product(times, column) for column in columns])


def shows_teller(canal, lock, thing):
    """Whether a thing is a TELLER of the lock, of the least many or not."""
    if not is_tuple_of(thing, 3):
        return False
    many, reds, blues = thing
    if not is_number_from(many, 1) or not are_climbs_of(canal, reds, blues):
        return False
    return climbs_apart(canal, reds, blues) == [many if at == lock else 0 for at in range(len(canal[2]))]


def nearest(one, other, lock):
    """Of all that is put together of both, by whole numbers, one with the number nearest to 0, but not 0, at the lock.

    Where both have 0 there it's one itself.
    """
    while other[lock] != 0:
        one, other = other, less(one, one[lock] // other[lock], other)
    return one


def round_by(canal, lock):
    """A ROUND that hasn't 0 at the lock; None of a sure one.

    It has just the stride there, forth or back: so it shows that the lock isn't told further than by its stride.
    """
    told = [0 for each in canal[2]]
    for turn in rounds(canal):
        told = nearest(told, turn, lock)
    return None if told[lock] == 0 else told


def stride(canal, lock):
    """The greatest number of which what each ROUND has at the lock is a multiple; 0 of a sure one."""
    turn = round_by(canal, lock)
    return 0 if turn is None else abs(turn[lock])


def known(canal, lock, one, other):
    """The pair (number, stride): what all COUNTS of both have at the lock, but for multiples of the stride."""
    numbers = counts(canal, one, other)
    if numbers is None:
        raise NoCounts()
    multiple = stride(canal, lock)
    return reduced(numbers[lock], multiple), multiple
