"""Heights that climb alike over every lock, and what standings weigh by them."""

from crosslocks.counts import form_of, loads
from crosslocks.plain import are_numbers, is_number_from, is_tuple_of, product, reduced


def are_climbs_of(canal, reds, blues):
    """Whether things are tuples with a number for each red basin, for each blue one."""
    if not is_tuple_of(reds, canal[0]) or not is_tuple_of(blues, canal[1]):
        return False
    return are_numbers(reds) and are_numbers(blues)


def climbs_apart(canal, reds, blues):
    """For each lock the climb of the reds less that of the blues."""
    return [reds[c] - reds[a] - (blues[y] - blues[x]) for a, c, x, y in canal[2]]


def parted(canal, first, numbers):
    """The triple of first and of the numbers of the red basins, of the blue ones."""
    return first, tuple(numbers[:canal[0]]), tuple(numbers[canal[0]:])


def is_heights(canal, thing):
    """Whether a thing is HEIGHTS."""
    if not is_tuple_of(thing, 3):
        return False
    measure, reds, blues = thing
    if not is_number_from(measure, 0) or measure == 1 or not are_climbs_of(canal, reds, blues):
        return False
    return not any([reduced(apart, measure) for apart in climbs_apart(canal, reds, blues)])


def weight(canal, heights, standing):
    """The sum of boats times heights less the blues' climb of each high lock, by the measure."""
    measure, reds, blues = heights
    return reduced(product(list(reds) + list(blues), loads(canal, standing)), measure)


def weigh_unlike(canal, heights, one, other):
    return weight(canal, heights, one) != weight(canal, heights, other)


def least_heights(canal):
    """The fewest HEIGHTS by all of which two standings weigh alike just where both have COUNTS.

    They stand here and not in measures.py, since bar looks for its HEIGHTS among them.
    """
    steps, left, right = form_of(canal)
    told = []
    for measure, row in zip(steps + [0 for basin in left[len(steps):]], left):
        # By a measure of 1 all weigh alike, so it tells nothing.
        if measure != 1:
            told.append(parted(canal, measure, [reduced(number, measure) for number in row]))
    return told


def bar(canal, one, other):
    """HEIGHTS by which both weigh unlike; None where there are COUNTS."""
    for heights in least_heights(canal):
        if weigh_unlike(canal, heights, one, other):
            return heights
    return None


def shows_bar(canal, one, other, thing):
    """Whether a thing is HEIGHTS by which both weigh unlike."""
    return is_heights(canal, thing) and weigh_unlike(canal, thing, one, other)
