"""Counts: how often boats went by each lock, by what stands at two times alone."""

from crosslocks.errors import NoCounts
from crosslocks.plain import are_numbers, diagonal, less, product


def pulls(canal):
    """For each basin, red ones ahead of blue ones, a list of what one more of each lock's number does to its load."""
    reds, blues, locks = canal
    rows = [[0 for lock in locks] for basin in range(reds + blues)]
    for at, (a, c, x, y) in enumerate(locks):
        rows[a][at] -= 1
        rows[c][at] += 1
        # Of a lock that stands alike at last each red forth makes up for a blue back, from y to x.
        rows[reds + x][at] += 1
        rows[reds + y][at] -= 1
    return rows


def loads(canal, standing):
    """The boats of each basin, red ones ahead of blue ones, as if blue ones had turned all high locks low.

    So two standings are compared by boats alone, whatever their locks.
    """
    told = list(standing[0]) + list(standing[1])
    reds, blues, locks = canal
    for (a, c, x, y), stand in zip(locks, standing[2]):
        told[reds + x] += stand
        told[reds + y] -= stand
    return told


def loads_more(canal, one, other):
    """How much more load each basin has in other than in one."""
    return less(loads(canal, other), 1, loads(canal, one))


def form_of(canal):
    """The triple (steps, left, right) of the canal's pulls, as diagonal tells it."""
    return diagonal(pulls(canal), len(canal[2]))


def counts_by(form, more):
    """The numbers of the locks that make so much more load of each basin; None where there are none."""
    steps, left, right = form
    sums = [product(row, more) for row in left]
    if any(sums[len(steps):]) or any([number % step != 0 for number, step in zip(sums, steps)]):
        return None
    parts = [number // step for number, step in zip(sums, steps)]
    return [product(row, parts) for row in right]


def rounds_by(form):
    """What no basin feels: the columns of right that have no step."""
    steps, left, right = form
    return [[row[at] for row in right] for at in range(len(steps), len(right))]


def sure_by(form):
    """The rising list of the locks at which all columns of right that have no step are 0."""
    steps, left, right = form
    return [lock for lock, row in enumerate(right) if not any(row[len(steps):])]


def counts(canal, one, other):
    """COUNTS of both; None where there are none."""
    return counts_by(form_of(canal), loads_more(canal, one, other))


def pulls_to(canal, thing, more):
    """Whether a thing is a list of numbers, one for each lock, that make just so much more load of each basin."""
    if not isinstance(thing, list) or len(thing) != len(canal[2]) or not are_numbers(thing):
        return False
    return [product(row, thing) for row in pulls(canal)] == more


def shows_counts(canal, one, other, thing):
    """Whether a thing is COUNTS of both."""
    return pulls_to(canal, thing, loads_more(canal, one, other))


def shows_round(canal, thing):
    """Whether a thing is a ROUND."""
    return pulls_to(canal, thing, [0 for basin in range(canal[0] + canal[1])])


def rounds(canal):
    """A list of ROUNDs of which each ROUND is put together, by whole numbers, in just one way."""
    return rounds_by(form_of(canal))


def sure(canal):
    """The rising list of the locks at which each ROUND has 0."""
    return sure_by(form_of(canal))


def went_by(one, other, numbers):
    """For each lock the pair of how many more reds, blues went forth by it than back, by such COUNTS."""
    return [(number, last - first - number) for number, first, last in zip(numbers, one[2], other[2])]


def almanac(canal, one, other):
    """For each sure lock the pair of how many more reds, blues went forth by it than back; None for each other."""
    form = form_of(canal)
    numbers = counts_by(form, loads_more(canal, one, other))
    if numbers is None:
        raise NoCounts()
    told = [None for lock in numbers]
    pairs = went_by(one, other, numbers)
    for lock in sure_by(form):
        told[lock] = pairs[lock]
    return told
