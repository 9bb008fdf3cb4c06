"""Point 22: the report of a way."""

import copy
import random
import unittest

from manyjudges.report import report
from manyjudges.ways import ByStrength, InOrder, Most, Nearest
from samples import (
    A, B, C, FIVE_NAMES, LISTS, PREMISES, THREE, Reasons, and_of, chain_of_not, line_in, nearest_of, no,
    order_by_strength, row_in_order, rows_of, some_judges, unfit_threes, what_most_say,
)

WEIGHTS = (3, 1, 10 ** 20 - 1, 2, 5, 1)
ALL_THREE = (A, B, C, ("and", A, ("and", B, C)))
TWO_OF_THREE = ((True, True, False, False), (True, False, True, False), (False, True, True, False))


class Words(unittest.TestCase):
    def check(self, way, sayings, judges, *lines):
        self.assertEqual(report(way, sayings, judges), "\n".join(lines))

    def test_one_saying(self):
        self.check(Most(), (A,), ((True,),), "yes a: judges 0")
        self.check(ByStrength(), (no(A),), ((False,),), "no not a: judges 0")
        self.check(InOrder((0,)), (A,), ((True,), (False,), (True,)), "yes a: judges 0 2")
        self.check(Nearest(), (A,), ((True,), (False,), (False,)), "no a: judges 1 2")

    def test_most(self):
        self.check(Most(), PREMISES, THREE, "yes a: judges 0 1", "yes b: judges 0 2", "no (a and b): judges 1 2")

    def test_in_order(self):
        self.check(InOrder((2, 0, 1)), PREMISES, THREE,
                   "yes a: judges 0 1", "no b: from yes 0, no 2", "no (a and b): judges 1 2")
        self.check(InOrder((1, 2, 0)), PREMISES, THREE,
                   "no a: from yes 1, no 2", "yes b: judges 0 2", "no (a and b): judges 1 2")

    def test_by_strength(self):
        self.check(ByStrength(), PREMISES, THREE,
                   "yes a: judges 0 1", "yes b: judges 0 2", "yes (a and b): from yes 0, yes 1")

    def test_nearest(self):
        self.check(Nearest(), PREMISES, THREE, "no a: judges 2", "yes b: judges 0 2", "no (a and b): judges 1 2")
        self.check(Nearest((2, 2, 1)), PREMISES, THREE,
                   "yes a: judges 0 1", "yes b: judges 0 2", "yes (a and b): judges 0")

    def test_no_judge(self):
        self.check(Nearest((4, 4, 4, 1)), ALL_THREE, TWO_OF_THREE,
                   "yes a: judges 0 1", "yes b: judges 0 2", "yes c: judges 1 2", "yes (a and (b and c)): judges none")

    def test_three_pairs(self):
        self.check(ByStrength(), ALL_THREE, TWO_OF_THREE + ((True,) * 4,) * 2,
                   "yes a: judges 0 1 3 4", "yes b: judges 0 2 3 4", "yes c: judges 1 2 3 4",
                   "yes (a and (b and c)): from yes 0, yes 1, yes 2")

    def test_one_pair(self):
        sayings = PREMISES + (no(PREMISES[2]),)
        judges = tuple(row + (not row[2],) for row in THREE)
        lines = report(InOrder((0, 1, 2, 3)), sayings, judges).split("\n")
        self.assertEqual(lines[:3], ["yes a: judges 0 1", "yes b: judges 0 2", "yes (a and b): from yes 0, yes 1"])
        # It follows from the third answer, and without it from the first two.
        either = ("no not (a and b): from yes 2", "no not (a and b): from yes 0, yes 1")
        self.assertIn(lines[3], either)
        self.assertEqual(len(lines), 4)

    def test_judges_of_two_figures(self):
        self.check(Most(), (A,), ((True,),) * 21, "yes a: judges " + " ".join(str(number) for number in range(21)))
        self.check(Most(), (A,), ((False,),) * 10 + ((True,),) * 11, "yes a: judges 10 11 12 13 14 15 16 17 18 19 20")


class OfEveryList(Reasons):
    def all_judges(self, draw, rows):
        return [some_judges(draw, rows, many) for many in (1, 3, 5, 9, 21)] + unfit_threes(rows)

    def check_of_all_who(self, way, row, sayings, judges):
        told, reasons = self.check_report(report(way, sayings, judges), sayings)
        self.assertEqual(told, row)
        self.assertEqual(told, way.row(sayings, judges))
        for number, reason in enumerate(reasons):
            self.check_judges(reason, judges, number, row[number])
        return reasons

    def check_of_order(self, way, order, sayings, judges):
        told, reasons = self.check_report(report(way, sayings, judges), sayings)
        rows = rows_of(sayings)
        self.assertEqual(told, row_in_order(rows, judges, order))
        self.assertEqual(told, way.row(sayings, judges))
        self.check_in_order(told, reasons, rows, judges, order)
        return reasons

    def test_most(self):
        draw = random.Random(90)
        for sayings in LISTS:
            for judges in self.all_judges(draw, rows_of(sayings)):
                self.check_of_all_who(Most(), what_most_say(judges), sayings, judges)

    def test_nearest(self):
        draw = random.Random(91)
        for sayings in LISTS:
            rows = rows_of(sayings)
            for judges in self.all_judges(draw, rows):
                for weights in (None, WEIGHTS[:len(sayings)]):
                    near = nearest_of(rows, judges, weights)
                    self.check_of_all_who(Nearest(weights), near[0], sayings, judges)
        way = Nearest((4, 4, 4, 1))
        self.assertIn(("judges", ()), self.check_of_all_who(way, (True,) * 4, ALL_THREE, TWO_OF_THREE))

    def test_in_order_and_by_strength(self):
        draw = random.Random(92)
        lengths = {}
        for sayings in LISTS:
            for judges in self.all_judges(draw, rows_of(sayings)):
                order = tuple(draw.sample(range(len(sayings)), len(sayings)))
                reasons = self.check_of_order(InOrder(order), order, sayings, judges)
                reasons = reasons + self.check_of_order(ByStrength(), order_by_strength(judges), sayings, judges)
                for kind, told in reasons:
                    if kind == "follows":
                        lengths[len(told)] = lengths.get(len(told), 0) + 1
        # Parts of one pair and of several came up, so that each is seen written.
        self.assertGreater(lengths.get(1, 0), 0, lengths)
        self.assertGreater(lengths.get(2, 0), 20, lengths)
        self.assertGreater(lengths.get(3, 0), 5, lengths)


class Lines(unittest.TestCase):
    def test_a_line_for_each_saying_and_no_line_end_behind(self):
        draw = random.Random(93)
        for sayings in LISTS:
            judges = some_judges(draw, rows_of(sayings), 3)
            for way in (Most(), InOrder(tuple(range(len(sayings)))), ByStrength(), Nearest()):
                text = report(way, sayings, judges)
                self.assertEqual(text.count("\n"), len(sayings) - 1)
                self.assertEqual(text, text.strip())

    def test_a_line_is_told_from_one_that_is_not_so_written(self):
        self.assertEqual(line_in("no (a or b): from yes 0, no 10"), (
            False, ("or", A, B), ("follows", ((0, True), (10, False))),
        ))
        self.assertEqual(line_in("yes a: judges none"), (True, A, ("judges", ())))
        for line in ("", "a: judges 0", "yes a judges 0", "yes a : judges 0", "yes a: judges", "yes a: judges 0, 1",
                     "yes a: judges 00", "yes a: judges  0", "yes a: judges 0 ", "yes a: from", "yes  a: judges 0",
                     "yes a: from yes 0 no 1", "yes a: from yes 0,no 1", "yes a: from 0 yes", "Yes a: judges 0",
                     "yes a:judges 0", "yes (a): judges 0"):
            self.assertIsNone(line_in(line), line)


class Point2(Reasons):
    def test_what_is_handed_in_stays(self):
        order, weights = (2, 0, 1), (3, 1, 2)
        before = copy.deepcopy((PREMISES, THREE, order, weights))
        for way in (Most(), InOrder(order), ByStrength(), Nearest(), Nearest(weights)):
            report(way, PREMISES, THREE)
        self.assertEqual((PREMISES, THREE, order, weights), before)

    def test_asked_again_with_another_between(self):
        ways = (Most(), ByStrength(), Nearest())
        for sayings, other in zip(LISTS, LISTS[1:]):
            judges, others = tuple(rows_of(sayings)[:1]) * 3, tuple(rows_of(other)[:1])
            for way in ways:
                # All judges say alike, so that there is no part of which any one is told.
                first = report(way, sayings, judges)
                report(way, other, others)
                self.assertEqual(report(way, sayings, judges), first)

    def test_reasons_that_the_asker_changed(self):
        for way in (Most(), InOrder((2, 0, 1)), ByStrength(), Nearest()):
            way.reasons(PREMISES, THREE).clear()
            told, reasons = self.check_report(report(way, PREMISES, THREE), PREMISES)
            self.assertEqual((told, len(reasons)), (way.row(PREMISES, THREE), 3))


class Beyond(Reasons):
    def test_somewhat_beyond_the_bounds_nothing_is_refused(self):
        letters = FIVE_NAMES + ("f",)
        sayings = tuple(("letter", name) for name in letters) + (and_of(letters), chain_of_not(45))
        judges = some_judges(random.Random(94), rows_of(sayings), 25)
        for way in (Most(), InOrder((7, 6, 5, 4, 3, 2, 1, 0)), ByStrength(), Nearest(), Nearest((10 ** 21,) * 8)):
            told, reasons = self.check_report(report(way, sayings, judges), sayings)
            self.assertEqual(told, way.row(sayings, judges))


if __name__ == "__main__":
    unittest.main()
