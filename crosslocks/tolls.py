"""Tolls: what rows pay, and how far it's told by what stands at two times alone."""

from crosslocks.counts import counts, rounds, went_by
from crosslocks.errors import NoCounts
from crosslocks.goings import went
from crosslocks.plain import common_part, product, reduced


def paid_by(canal, tolls, standing, row):
    """What a row pays in all; NoBoat of the first going that has none."""
    reds, blues = went(canal, standing, row)
    return product([red for red, blue in tolls], reds) + product([blue for red, blue in tolls], blues)


def step(canal, tolls):
    """The greatest number of which what each ROUND pays is a multiple; 0 where all pay 0."""
    # By a ROUND as many more blues go back as reds go forth, so what blues pay is taken off.
    apart = [red - blue for red, blue in tolls]
    told = 0
    for turn in rounds(canal):
        told = common_part(told, product(turn, apart))
    return told


def paid(canal, tolls, one, other):
    """The pair (what, step): what all COUNTS of both pay, but for multiples of the step."""
    numbers = counts(canal, one, other)
    if numbers is None:
        raise NoCounts()
    multiple = step(canal, tolls)
    what = sum([product(toll, pair) for toll, pair in zip(tolls, went_by(one, other, numbers))])
    return reduced(what, multiple), multiple
