"""Point 18: whether a judge gains by a false row."""

import copy
import itertools
import random
import unittest

from manyjudges.gains import gains
from manyjudges.ways import ByStrength, InOrder, Most, Nearest
from samples import (
    A, B, BOTH_ANDS, FIVE_NAMES, LISTS, PREMISES, THREE, and_of, distance_of, is_row, nearest_of, order_by_strength,
    row_in_order, rows_of, some_judges, unfit_threes, what_most_say,
)

WEIGHTS = (10 ** 20 - 1, 2, 1, 10 ** 19, 3, 3)
NONE, ONLY_A, ONLY_B = (False,) * 5, (False, True, False, False, False), (False, False, True, False, False)
A_AND_C, B_AND_C, ALL = (False, True, False, True, False), (False, False, True, True, True), (True,) * 5


def ways_for(draw, many):
    """Each way, with a plain reckoning of its row from all fit rows and judges."""
    order = tuple(draw.sample(range(many), many))
    weights = WEIGHTS[:many]
    return [
        (Most(), lambda rows, judges: what_most_say(judges)),
        (InOrder(order), lambda rows, judges: row_in_order(rows, judges, order)),
        (ByStrength(), lambda rows, judges: row_in_order(rows, judges, order_by_strength(judges))),
        (Nearest(), lambda rows, judges: nearest_of(rows, judges, None)[0]),
        (Nearest(weights), lambda rows, judges: nearest_of(rows, judges, weights)[0]),
    ]


def by_trial(row_for, rows, judges, number):
    """All fit rows in their order, each put in the judge's place."""
    own = judges[number]
    before = distance_of(own, [row_for(rows, judges)], None)
    for tried in rows:
        changed = list(judges)
        changed[number] = tried
        row = row_for(rows, tuple(changed))
        if distance_of(own, [row], None) < before:
            return (tried, row)
    return None


class Gains(unittest.TestCase):
    def check(self, way, row_for, sayings, judges, number):
        """Tells whether the judge gains."""
        told = gains(way, sayings, judges, number)
        expected = by_trial(row_for, rows_of(sayings), judges, number)
        self.assertEqual(told, expected, (way, sayings, judges, number))
        if told is None:
            return False
        self.assertEqual((type(told), len(told)), (tuple, 2))
        self.assertTrue(all(is_row(row, len(sayings)) for row in told))
        self.assertNotEqual(told[0], judges[number])
        return True

    def test_in_order(self):
        judges = (NONE, B_AND_C, ALL)
        way = InOrder((0, 1, 2, 3, 4))
        self.assertEqual(way.row(BOTH_ANDS, judges), B_AND_C)
        self.assertEqual(gains(way, BOTH_ANDS, judges, 0), (ONLY_A, A_AND_C))
        self.assertIsNone(gains(way, BOTH_ANDS, judges, 1))

    def test_by_strength(self):
        judges = (NONE, B_AND_C, ALL)
        self.assertEqual(ByStrength().row(BOTH_ANDS, judges), B_AND_C)
        self.assertEqual(gains(ByStrength(), BOTH_ANDS, judges, 0), (ONLY_A, A_AND_C))

    def test_nearest(self):
        judges = (ONLY_B, ONLY_A, ALL)
        self.assertEqual(Nearest().row(BOTH_ANDS, judges), ONLY_B)
        self.assertEqual(gains(Nearest(), BOTH_ANDS, judges, 1), (A_AND_C, A_AND_C))
        self.assertIsNone(gains(Nearest(), BOTH_ANDS, judges, 0))

    def test_each_saying_counts_one_by_any_weights(self):
        sayings = (A, B, ("or", A, B), ("if", A, B))
        judges = ((False, False, False, True), (True, False, True, False), (True, True, True, True))
        way = Nearest((1, 2, 1, 2))
        # By the weights both rows are as far from the judge's own; by sayings it is three and two.
        self.assertEqual(way.row(sayings, judges), judges[0])
        self.assertEqual(gains(way, sayings, judges, 1), (judges[2], judges[2]))

    def test_nobody_gains_where_there_is_one_judge(self):
        draw = random.Random(52)
        for sayings in LISTS[::3]:
            for row in rows_of(sayings)[::4]:
                for way, row_for in ways_for(draw, len(sayings)):
                    self.assertIsNone(gains(way, sayings, (row,), 0))

    def test_nobody_gains_by_most(self):
        draw = random.Random(53)
        for sayings in LISTS:
            rows = rows_of(sayings)
            for judges in [some_judges(draw, rows, many) for many in (1, 3, 5, 21)] + unfit_threes(rows):
                for number in range(len(judges)):
                    self.assertIsNone(gains(Most(), sayings, judges, number))

    def check_all(self, ways, sayings, judges, seen):
        for way, row_for in ways:
            for number in range(len(judges)):
                gained = self.check(way, row_for, sayings, judges, number)
                seen.setdefault(type(way).__name__, []).append(gained)

    def check_seen(self, seen, least):
        """Each way came up, all but most with some who gain and some who don't."""
        self.assertEqual(set(seen), {"Most", "InOrder", "ByStrength", "Nearest"})
        self.assertNotIn(True, seen.pop("Most"))
        for name, found in seen.items():
            self.assertGreaterEqual(found.count(True), least, name)
            self.assertGreaterEqual(found.count(False), least, name)

    def test_three_judges_of_every_list(self):
        draw = random.Random(54)
        seen = {}
        for sayings in LISTS:
            rows = rows_of(sayings)
            for judges in [some_judges(draw, rows, 3)] + unfit_threes(rows)[:2]:
                self.check_all(ways_for(draw, len(sayings)), sayings, judges, seen)
        self.check_seen(seen, 1)

    def test_all_threes_of_judges(self):
        draw = random.Random(55)
        seen = {}
        for judges in itertools.combinations_with_replacement(rows_of(BOTH_ANDS), 3):
            self.check_all(ways_for(draw, 5), BOTH_ANDS, tuple(draw.sample(judges, 3)), seen)
        self.check_seen(seen, 3)

    def test_each_odd_number_of_judges(self):
        draw = random.Random(56)
        seen = {}
        for many in range(1, 22, 2):
            for sayings in (BOTH_ANDS,) * 6 + LISTS[many:70:40]:
                judges = some_judges(draw, rows_of(sayings), many)
                self.check_all(ways_for(draw, len(sayings)), sayings, judges, seen)
        self.check_seen(seen, 3)


class Point2(unittest.TestCase):
    def test_what_is_handed_in_stays(self):
        judges, order = (NONE, B_AND_C, ALL), (0, 1, 2, 3, 4)
        before = copy.deepcopy((BOTH_ANDS, judges, order))
        way = InOrder(order)
        gains(way, BOTH_ANDS, judges, 0), gains(way, BOTH_ANDS, judges, 2)
        self.assertEqual((BOTH_ANDS, judges, order), before)
        self.assertEqual(way.row(BOTH_ANDS, judges), B_AND_C)

    def test_asked_again_with_another_list_between(self):
        judges = (NONE, B_AND_C, ALL)
        for way in (Most(), ByStrength(), Nearest()):
            first = [gains(way, BOTH_ANDS, judges, number) for number in range(3)]
            self.assertIsNone(gains(way, PREMISES, THREE[:1], 0))
            gains(way, PREMISES, THREE, 2)
            self.assertEqual([gains(way, BOTH_ANDS, judges, number) for number in range(3)], first)


class Beyond(unittest.TestCase):
    def test_somewhat_beyond_the_bounds_nothing_is_refused(self):
        letters = FIVE_NAMES + ("f",)
        sayings = tuple(("letter", name) for name in letters) + (and_of(letters),)
        rows = rows_of(sayings)
        judges = some_judges(random.Random(57), rows, 23)
        weights = (10 ** 21,) * 7
        self.assertIsNone(gains(Most(), sayings, judges, 22))
        told = gains(Nearest(weights), sayings, judges, 22)
        self.assertEqual(told, by_trial(lambda rows, judges: nearest_of(rows, judges, weights)[0], rows, judges, 22))


if __name__ == "__main__":
    unittest.main()
