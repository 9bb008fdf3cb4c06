"""The interface: each name in its module, with the arguments that are told of it."""

import importlib
import inspect
import unittest

from manyjudges import errors, ways

FUNCTIONS = """
    sayings pieces_in(saying)
    sayings names_in(saying)
    sayings is_so(saying, held)
    tables table(saying, names)
    tables held_by(number, names)
    fits names_of(sayings)
    fits row_of(sayings, held)
    fits fit_rows(sayings)
    fits fits(sayings, part)
    fits follows(sayings, part, number)
    parts smallest_unfit(sayings)
    parts always_fit(sayings)
    counts who_say(judges, number, truth)
    counts most(judges)
    orders in_order(sayings, judges, order)
    orders grounds_first(sayings, judges, grounds)
    nearest distance(row, judges, weights=None)
    nearest nearest(sayings, judges, weights=None)
    quotas outcome(judges, quota)
    quotas least_quota(sayings, many)
    quotas against(sayings, many, quota)
    gains gains(way, sayings, judges, number)
    shows shown(saying)
    shows written(sayings, judges)
    reader read_saying(text)
    reader read(text)
    seats seated(sayings, judges)
    report report(way, sayings, judges)
"""
WAYS = {"Most": "()", "InOrder": "(order)", "ByStrength": "()", "Nearest": "(weights=None)"}
REFUSALS = ("NoText", "OutOfBounds", "BadRow", "Even", "Barred")


def signature_of(thing):
    return str(inspect.signature(thing))


class Interface(unittest.TestCase):
    def test_functions(self):
        for row in FUNCTIONS.strip().split("\n"):
            module, told = row.strip().split(" ", 1)
            name = told.partition("(")[0]
            found = getattr(importlib.import_module(f"manyjudges.{module}"), name)
            self.assertTrue(inspect.isfunction(found), told)
            self.assertEqual(found.__module__, f"manyjudges.{module}")
            self.assertEqual(name + signature_of(found), told)

    def test_ways(self):
        for name, arguments in WAYS.items():
            way = getattr(ways, name)
            self.assertTrue(issubclass(way, ways.Way))
            self.assertEqual(signature_of(way), arguments, name)
            for method in ("row", "reasons"):
                self.assertEqual(signature_of(getattr(way, method)), "(self, sayings, judges)", name)
            for other in WAYS:
                self.assertEqual(issubclass(way, getattr(ways, other)), name == other)

    def test_errors(self):
        self.assertTrue(issubclass(errors.JudgeError, ValueError))
        for name in REFUSALS:
            self.assertTrue(issubclass(getattr(errors, name), errors.JudgeError), name)
            for other in REFUSALS:
                self.assertEqual(issubclass(getattr(errors, name), getattr(errors, other)), name == other)
        self.assertEqual(signature_of(errors.BadRow), "(number)")
        self.assertEqual(signature_of(errors.Barred), "(part)")


if __name__ == "__main__":
    unittest.main()
