"""The names, and the arguments by their places and names, that the document tells."""

import importlib
import inspect
import unittest

FUNCTIONS = """
canals: is_canal(thing) is_standing(canal, thing) exchanged(canal) exchanged_standing(standing) together(one, other)
canals: pieces(canal, water)
goings: may_go(canal, standing) gone(canal, standing, going) gone_all(canal, standing, row) went(canal, standing, row)
counts: counts(canal, one, other) shows_counts(canal, one, other, thing) shows_round(canal, thing) rounds(canal) sure(canal)
counts: almanac(canal, one, other)
heights: is_heights(canal, thing) weight(canal, heights, standing) bar(canal, one, other) shows_bar(canal, one, other, thing)
measures: scales(canal) measures(canal) have_counts(canal, one, other) lots(canal, standings)
tellers: teller(canal, lock) shows_teller(canal, lock, thing) round_by(canal, lock) stride(canal, lock)
tellers: known(canal, lock, one, other)
tolls: paid_by(canal, tolls, standing, row) step(canal, tolls) paid(canal, tolls, one, other)
plenty: plain_row(canal, one, other, counts) how_many(canal, one, other, counts) wanted(canal, one, other, counts)
plenty: is_enough(canal, one, other, counts) fewest(canal, one, other)
small: lot_of(canal, standing) shows_lot(canal, standing, thing) far(canal, one, other) way(canal, one, other)
small: is_stuck(canal, standing) scarce(canal, one, other)
alone: asleep(canal, standing, water) leads(canal, one, other, water) row_alone(canal, one, other, water)
alone: woken(canal, standing, water, basin)
maps: is_map(thing) faces(chart) is_flat(chart) canal_of(chart) trees(canal)
texts: canal_text(canal) canal_in(text) standing_text(standing) standing_in(canal, text)
desk: answers(text)
"""
METHODS = """
go(lock, water) row(goings) fill(water, basin, many) drain(water, basin, many) turn(lock) dig(a, c, x, y) undo()
canal() standing() deeds() hands() almanac() paid(tolls) went() as_of(many) twin() log()
"""
ERRORS = """
ValueError: BadRow(at) Loose(lock) Others(basin)
LookupError: NoLock(lock) NoBasin(basin) NoDeed(many)
RuntimeError: NoBoat(going) NoCounts() Short(many)
OverflowError: TooMany(many)
"""


def calls(text):
    """The names and arguments of `name(first, second) other(first)`."""
    for part in text.replace("\n", " ").split(")"):
        if part.strip():
            name, arguments = part.strip().split("(")
            yield name, [argument for argument in arguments.split(", ") if argument]


def by_file(text):
    for row in text.strip().split("\n"):
        place, rest = row.split(": ")
        for name, arguments in calls(rest):
            yield place, name, arguments


class Interface(unittest.TestCase):
    def takes(self, call, arguments):
        found = inspect.signature(call).parameters
        self.assertEqual(list(found), arguments)
        for parameter in found.values():
            self.assertIs(parameter.kind, inspect.Parameter.POSITIONAL_OR_KEYWORD)
            self.assertIs(parameter.default, inspect.Parameter.empty)

    def test_functions(self):
        for file, name, arguments in by_file(FUNCTIONS):
            with self.subTest((file, name)):
                self.takes(getattr(importlib.import_module("crosslocks." + file), name), arguments)

    def test_keep(self):
        keep = importlib.import_module("crosslocks.keep").Keep
        self.takes(keep, ["canal", "standing"])
        for name, arguments in calls(METHODS):
            with self.subTest(name):
                self.takes(vars(keep)[name], ["self"] + arguments)

    def test_errors(self):
        for parent, name, arguments in by_file(ERRORS):
            with self.subTest(name):
                found = getattr(importlib.import_module("crosslocks.errors"), name)
                self.takes(found, arguments)
                self.assertEqual([base.__name__ for base in found.__bases__], [parent])
