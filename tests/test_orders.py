"""Points 12 and 13: answers in an order, grounds first, their reasons, and the refusal Barred."""

import copy
import itertools
import random
import unittest

from manyjudges.errors import Barred
from manyjudges.orders import grounds_first, in_order
from samples import (
    A, B, C, FIVE_NAMES, LISTS, PREMISES, THREE, Reasons, is_fit, is_part, no, one_pair_less, rows_of, some_judges,
    unfit_threes, what_follows, what_most_say,
)

NUMBERS_OF_JUDGES = (1, 3, 5, 21)


def some_orders(draw, many):
    """All orders of a few sayings; else the rising, the falling and some drawn ones."""
    numbers = tuple(range(many))
    if many <= 3:
        return list(itertools.permutations(numbers))
    return [numbers, numbers[::-1]] + [tuple(draw.sample(numbers, many)) for _ in range(4)]


def all_grounds(many):
    return [some for size in range(many + 1) for some in itertools.combinations(range(many), size)]


def all_judges(draw, rows):
    return [some_judges(draw, rows, many) for many in NUMBERS_OF_JUDGES] + unfit_threes(rows)


class InOrder(Reasons):
    def check(self, sayings, judges, order):
        told = in_order(sayings, judges, order)
        self.assertEqual((type(told), len(told)), (tuple, 2))
        row, reasons = told
        return self.check_in_order(row, reasons, rows_of(sayings), judges, order)

    def test_premises_ahead(self):
        self.assertEqual(in_order(PREMISES, THREE, (0, 1, 2)), ((True, True, True), [
            ("judges", (0, 1)), ("judges", (0, 2)), ("follows", ((0, True), (1, True))),
        ]))

    def test_the_outcome_ahead(self):
        self.assertEqual(in_order(PREMISES, THREE, (2, 0, 1)), ((True, False, False), [
            ("judges", (0, 1)), ("follows", ((0, True), (2, False))), ("judges", (1, 2)),
        ]))
        self.assertEqual(in_order(PREMISES, THREE, (2, 1, 0)), ((False, True, False), [
            ("follows", ((1, True), (2, False))), ("judges", (0, 2)), ("judges", (1, 2)),
        ]))

    def test_judges_are_the_reason_also_where_it_follows(self):
        judges = ((True, True, True),) * 3
        self.assertEqual(in_order(PREMISES, judges, (0, 1, 2)), ((True, True, True), [("judges", (0, 1, 2))] * 3))

    def test_a_pair_that_is_not_needed_is_left_out(self):
        sayings = (C, A, ("letter", "d"), B, ("and", A, B))
        judges = (
            (True, True, True, True, True), (True, True, True, False, False), (True, False, True, True, False),
        )
        row, reasons = in_order(sayings, judges, (2, 3, 0, 1, 4))
        self.assertEqual(row, (True, True, True, True, True))
        self.assertEqual(reasons[4], ("follows", ((1, True), (3, True))))
        self.assertEqual(reasons[2], ("judges", (0, 1, 2)))

    def test_one_judge_is_followed(self):
        for sayings in LISTS:
            for row in rows_of(sayings):
                order = tuple(reversed(range(len(sayings))))
                self.assertEqual(in_order(sayings, (row,), order), (row, [("judges", (0,))] * len(sayings)))

    def test_every_list(self):
        draw = random.Random(13)
        others = 0
        for sayings in LISTS:
            for judges in all_judges(draw, rows_of(sayings)):
                for order in some_orders(draw, len(sayings)):
                    others = others + self.check(sayings, judges, order)
        self.assertGreater(others, 200)

    def test_each_odd_number_of_judges(self):
        draw = random.Random(14)
        sayings = (A, B, C, ("and", A, ("or", B, C)), ("if", C, A), no(B))
        for many in range(1, 22, 2):
            for order in some_orders(draw, len(sayings)):
                self.check(sayings, some_judges(draw, rows_of(sayings), many), order)


class GroundsFirst(Reasons):
    def check(self, sayings, judges, grounds):
        """Tells the kinds of what came up."""
        rows, said = rows_of(sayings), what_most_say(judges)
        answers = tuple((number, said[number]) for number in grounds)
        if not is_fit(rows, answers):
            return self.check_barred(sayings, judges, grounds, answers)
        told = grounds_first(sayings, judges, grounds)
        self.assertEqual((type(told), len(told)), (tuple, 2))
        row, reasons = told
        self.assertEqual((type(row), len(row)), (tuple, len(sayings)))
        self.assertEqual((type(reasons), len(reasons)), (list, len(sayings)))
        self.assertTrue(is_fit(rows, [pair for pair in enumerate(row) if pair[1] is not None]))
        return {self.check_one(rows, judges, answers, number, row, reasons) for number in range(len(sayings))}

    def check_one(self, rows, judges, answers, number, row, reasons):
        truth, reason = row[number], reasons[number]
        if number in dict(answers):
            self.assertIs(truth, dict(answers)[number])
            self.check_judges(reason, judges, number, truth)
            return "judges"
        self.assertIs(truth, what_follows(rows, answers, number))
        if truth is None:
            self.assertIsNone(reason)
            return "open"
        self.check_follows(reason, rows, answers, number, truth)
        return f"follows from {min(len(reason[1]), 2)}"

    def check_barred(self, sayings, judges, grounds, answers):
        rows = rows_of(sayings)
        with self.assertRaises(Barred) as taken:
            grounds_first(sayings, judges, grounds)
        part = taken.exception.part
        self.assertTrue(is_part(part), part)
        self.assertLessEqual(set(part), set(answers))
        self.assertFalse(is_fit(rows, part))
        for less in one_pair_less(part):
            self.assertTrue(is_fit(rows, less))
        return {"barred" if part == answers else "barred by fewer"}

    def test_no_grounds(self):
        self.assertEqual(grounds_first(PREMISES, THREE, ()), ((None, None, None), [None, None, None]))

    def test_no_grounds_with_what_follows_from_nothing(self):
        sayings = (("or", A, no(A)), B, ("and", A, no(A)))
        judges = ((True, True, False),) * 3
        self.assertEqual(
            grounds_first(sayings, judges, ()),
            ((True, None, False), [("follows", ()), None, ("follows", ())]),
        )
        self.assertEqual(
            grounds_first(sayings, judges, (1,)),
            ((True, True, False), [("follows", ()), ("judges", (0, 1, 2)), ("follows", ())]),
        )

    def test_what_always_is_so_as_a_ground(self):
        sayings = (("or", A, no(A)), B)
        self.assertEqual(
            grounds_first(sayings, ((True, False), (True, True), (True, False)), (0,)),
            ((True, None), [("judges", (0, 1, 2)), None]),
        )

    def test_premises(self):
        self.assertEqual(grounds_first(PREMISES, THREE, (0, 1)), ((True, True, True), [
            ("judges", (0, 1)), ("judges", (0, 2)), ("follows", ((0, True), (1, True))),
        ]))

    def test_the_outcome_leaves_its_premises_open(self):
        self.assertEqual(
            grounds_first(PREMISES, THREE, (2,)), ((None, None, False), [None, None, ("judges", (1, 2))]),
        )

    def test_open_whatever_judges_say(self):
        judges = ((True, True, True),) * 3
        self.assertEqual(
            grounds_first(PREMISES, judges, (0,)), ((True, None, None), [("judges", (0, 1, 2)), None, None]),
        )

    def test_all_grounds(self):
        judges = (THREE[1], THREE[1], THREE[2])
        self.assertEqual(
            grounds_first(PREMISES, judges, (0, 1, 2)),
            ((True, False, False), [("judges", (0, 1)), ("judges", (0, 1)), ("judges", (0, 1, 2))]),
        )

    def test_barred(self):
        with self.assertRaises(Barred) as taken:
            grounds_first(PREMISES, THREE, (0, 1, 2))
        self.assertEqual(taken.exception.part, ((0, True), (1, True), (2, False)))

    def test_barred_by_some_of_the_grounds(self):
        sayings = (C, A, ("letter", "d"), B, ("and", A, B))
        judges = (
            (True, True, True, True, True), (True, True, True, False, False), (True, False, True, True, False),
        )
        with self.assertRaises(Barred) as taken:
            grounds_first(sayings, judges, (0, 1, 2, 3, 4))
        self.assertEqual(taken.exception.part, ((1, True), (3, True), (4, False)))

    def test_every_list(self):
        draw = random.Random(15)
        seen = []
        for sayings in LISTS:
            for judges in all_judges(draw, rows_of(sayings)):
                for grounds in all_grounds(len(sayings)):
                    seen.extend(self.check(sayings, judges, grounds))
        for kind in ("judges", "open", "follows from 0", "follows from 1", "follows from 2", "barred",
                     "barred by fewer"):
            self.assertGreater(seen.count(kind), 20, kind)

    def test_each_odd_number_of_judges(self):
        draw = random.Random(16)
        sayings = (A, B, ("if", A, B), ("and", A, B), ("or", A, B))
        for many in range(1, 22, 2):
            judges = some_judges(draw, rows_of(sayings), many)
            for grounds in all_grounds(len(sayings)):
                self.check(sayings, judges, grounds)


class Point2(unittest.TestCase):
    def test_what_is_handed_in_stays(self):
        handed = (PREMISES, THREE, (2, 0, 1), (0, 1), (0, 1, 2))
        before = copy.deepcopy(handed)
        in_order(PREMISES, THREE, handed[2]), grounds_first(PREMISES, THREE, handed[3])
        with self.assertRaises(Barred):
            grounds_first(PREMISES, THREE, handed[4])
        self.assertEqual(handed, before)

    def test_told_reasons_are_the_askers(self):
        for asked in (lambda: in_order(PREMISES, THREE, (0, 1, 2)), lambda: grounds_first(PREMISES, THREE, (0, 1))):
            first = copy.deepcopy(asked())
            told = asked()
            told[1].clear()
            told[1].append("mine")
            self.assertEqual(asked(), first)
            self.assertIsNot(asked()[1], asked()[1])

    def test_asked_again_with_another_list_between(self):
        draw = random.Random(17)
        for sayings, other in zip(LISTS, LISTS[1:] + LISTS[:1]):
            judges = some_judges(draw, rows_of(sayings), 3)
            others = some_judges(draw, rows_of(other), 5)
            order = tuple(range(len(sayings)))

            def rows_and_kinds():
                row, reasons = in_order(sayings, judges, order)
                open_row, open_reasons = grounds_first(sayings, judges, (0,))
                # Which part is told is any one, so a reason that follows is held alike by its kind alone.
                kinds = [reason and (reason if reason[0] == "judges" else "follows")
                         for reason in reasons + open_reasons]
                return row, open_row, kinds

            first = rows_and_kinds()
            in_order(other, others, tuple(range(len(other)))), grounds_first(other, others, ())
            self.assertEqual(rows_and_kinds(), first)


class Beyond(unittest.TestCase):
    def test_somewhat_beyond_the_bounds_nothing_is_refused(self):
        letters = tuple(("letter", name) for name in FIVE_NAMES + ("f",))
        sayings = letters + (("and", A, ("letter", "f")),)
        yes, one, other = (True,) * 7, (True,) * 5 + (False, False), (False,) + (True,) * 5 + (False,)
        judges = (yes,) * 7 + (one,) * 8 + (other,) * 8
        row, reasons = in_order(sayings, judges, tuple(range(7)))
        self.assertEqual(row, yes)
        self.assertEqual(reasons[6], ("follows", ((0, True), (5, True))))
        self.assertEqual(grounds_first(sayings, judges, tuple(range(6)))[0], yes)
        with self.assertRaises(Barred) as taken:
            grounds_first(sayings, judges, tuple(range(7)))
        self.assertEqual(taken.exception.part, ((0, True), (5, True), (6, False)))


if __name__ == "__main__":
    unittest.main()
