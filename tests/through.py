"""What rows do, gone through going by going, apart from the package."""

from tests.apart import minors, rank, rows_of
from tests.samples import after


def goings_of(canal, waters=("blue", "red")):
    return [(lock, water) for lock in range(len(canal[2])) for water in waters]


def rows_to_all(canal, standing, most=400):
    """For all that it comes to the least of the shortest rows, by all rows as long as these; None where there are more."""
    told = {standing: []}
    last = told
    while last:
        found = {}
        for now, row in last.items():
            for going in goings_of(canal):
                then = after(canal, now, going)
                if then is not None and then not in told:
                    found.setdefault(then, []).append(row + [going])
        last = {then: min(rows) for then, rows in found.items()}
        told = {**told, **last}
        if len(told) > most:
            return None
    return told


def behind(canal, standing, row):
    """What stands behind a row, None where one of it has no boat."""
    for going in row:
        standing = standing if standing is None else after(canal, standing, going)
    return standing


def went_in(canal, standing, row):
    """Lock by lock how many more reds, blues went forth than back, none of them refused."""
    reds, blues = [0] * len(canal[2]), [0] * len(canal[2])
    for lock, water in row:
        (reds if water == "red" else blues)[lock] += 1 - 2 * standing[2][lock]
        standing = after(canal, standing, (lock, water))
    return reds, blues


def plain_goings(one, other, numbers):
    """The PLAIN ROW: at each lock who still has to go that way goes, till nobody has."""
    row = []
    for lock, number in enumerate(numbers):
        left = {"red": number, "blue": other[2][lock] - one[2][lock] - number}
        high = one[2][lock] == 1
        while any(left.values()):
            ways = [water for water in left if (left[water] < 0 if high else left[water] > 0)]
            assert len(ways) == 1
            left[ways[0]] += 1 if high else -1
            row.append((lock, ways[0]))
            high = not high
    return row


def shortest_with(canal, one, other, numbers, most):
    """How many goings the shortest row with just these COUNTS has; None where it has more than most."""
    start = one, (0,) * len(canal[2])
    layer = {start}
    for many in range(most + 1):
        if (other, tuple(numbers)) in layer:
            return many
        further = set()
        for now, gone in layer:
            for lock, water in goings_of(canal):
                then = after(canal, now, (lock, water))
                if then is not None:
                    more = (1 - 2 * now[2][lock]) if water == "red" else 0
                    further.add((then, gone[:lock] + (gone[lock] + more,) + gone[lock + 1:]))
        layer = further
    return None


def step_of(canal, tolls):
    """The step, by minors: the greatest common part of what all ROUNDs pay."""
    rows, many = rows_of(canal), rank(rows_of(canal))
    wider = rows + [[red - blue for red, blue in tolls]]
    if rank(wider) == many:
        return 0
    return minors(wider, many + 1) // minors(rows, many)


def some_tolls(chance, canal, most=5):
    return [(chance.randint(-most, most), chance.randint(-most, most)) for _ in canal[2]]


def pays(canal, tolls, standing, row):
    """What a row pays, going by going."""
    told = 0
    for lock, water in row:
        toll = tolls[lock][0] if water == "red" else tolls[lock][1]
        told += toll if standing[2][lock] == 0 else -toll
        standing = after(canal, standing, (lock, water))
    return told


def is_multiple(number, step):
    return number == 0 if step == 0 else number % step == 0


def only(standing, water):
    """The same without boats of the other water."""
    reds, blues, stands = standing
    return (reds, (0,) * len(blues), stands) if water == "red" else ((0,) * len(reds), blues, stands)


def spread(boats, basins):
    """All ways in which so many boats lie in so many basins."""
    if basins == 1:
        yield (boats,)
        return
    for first in range(boats + 1):
        for rest in spread(boats - first, basins - 1):
            yield (first,) + rest


def all_stands(many):
    return [tuple(number >> at & 1 for at in range(many)) for number in range(2 ** many)]


def all_alone(canal, water, boats):
    """All standings of so many boats of one water alone."""
    for lie in spread(boats, canal[0] if water == "red" else canal[1]):
        for stands in all_stands(len(canal[2])):
            yield (lie, (0,) * canal[1], stands) if water == "red" else ((0,) * canal[0], lie, stands)
