"""Measures: the fewest heights that tell of all standings which have counts."""

from crosslocks.counts import counts
from crosslocks.heights import least_heights, weight


def scales(canal):
    """The shortest list of HEIGHTS such that two standings have COUNTS just where each of these weighs both alike."""
    return least_heights(canal)


def measures(canal):
    """The list of the measures of the scales."""
    return [measure for measure, reds, blues in scales(canal)]


def have_counts(canal, one, other):
    """Whether there are COUNTS of both."""
    return counts(canal, one, other) is not None


def lots(canal, standings):
    """The rising lists of the places of those standings that have COUNTS of one another, by their first ones."""
    weighed_by = scales(canal)
    # A dict keeps the order of its keys, so each lot stands where its first place does.
    members = {}
    for place, standing in enumerate(standings):
        weights = tuple([weight(canal, heights, standing) for heights in weighed_by])
        if weights not in members:
            members[weights] = []
        members[weights].append(place)
    return list(members.values())
