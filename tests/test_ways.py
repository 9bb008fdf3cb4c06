"""Point 17: the four ways, their rows and reasons."""

import copy
import itertools
import random
import unittest

from manyjudges.orders import in_order
from manyjudges.ways import ByStrength, InOrder, Most, Nearest, Way
from samples import (
    A, B, C, FIVE_NAMES, LISTS, PREMISES, THREE, Reasons, and_of, is_row, nearest_of, no, order_by_strength,
    row_in_order, rows_of, some_judges, unfit_threes, what_most_say, who,
)

FOUR = (Most, InOrder, ByStrength, Nearest)
# Each way is made once here and asked of every list of the length that its order or weights have.
MOST, BY_STRENGTH, NEAREST = Most(), ByStrength(), Nearest()
RISING = {many: InOrder(tuple(range(many))) for many in range(1, 7)}
FALLING = {many: InOrder(tuple(reversed(range(many)))) for many in range(1, 7)}
WEIGHTS = (10 ** 20 - 1, 1, 10 ** 20 - 2, 3, 2, 5)
WEIGHTED = {many: Nearest(WEIGHTS[:many]) for many in range(1, 7)}
ALL_THREE = (A, B, C, ("and", A, ("and", B, C)))
TWO_OF_THREE = ((True, True, False, False), (True, False, True, False), (False, True, True, False))


def all_judges(draw, rows, numbers=(1, 3, 5, 21)):
    return [some_judges(draw, rows, many) for many in numbers] + unfit_threes(rows)


def ways_for(many):
    return [MOST, RISING[many], FALLING[many], BY_STRENGTH, NEAREST, WEIGHTED[many]]


class Classes(unittest.TestCase):
    def test_the_four_stand_under_way(self):
        for one in FOUR:
            self.assertTrue(issubclass(one, Way))
            self.assertIsNot(one, Way)

    def test_none_stands_under_another(self):
        for one in FOUR:
            for other in FOUR:
                self.assertIs(issubclass(one, other), one is other)

    def test_as_the_interface_makes_them(self):
        for way in (Most(), InOrder((0, 1, 2)), InOrder(order=(0, 1, 2)), ByStrength(), Nearest(), Nearest(None),
                    Nearest((1, 1, 1)), Nearest(weights=(1, 1, 1)), Nearest(weights=None)):
            self.assertIsInstance(way, Way)
            self.assertTrue(is_row(way.row(PREMISES, THREE), 3))
            self.assertEqual(len(way.reasons(sayings=PREMISES, judges=THREE)), 3)


class OfAllWho(Reasons):
    """The ways whose reasons are all who say the answer."""

    def check(self, way, row, sayings, judges):
        """Tells how many answers nobody says."""
        told, reasons = way.row(sayings, judges), way.reasons(sayings, judges)
        self.assertTrue(is_row(told, len(sayings)))
        self.assertEqual(told, row)
        self.assertEqual((type(reasons), len(reasons)), (list, len(sayings)))
        for number, reason in enumerate(reasons):
            self.check_judges(reason, judges, number, row[number])
        return reasons.count(("judges", ()))

    def test_most_that_is_not_fit(self):
        self.assertEqual(MOST.row(PREMISES, THREE), (True, True, False))
        self.assertEqual(MOST.reasons(PREMISES, THREE), [("judges", (0, 1)), ("judges", (0, 2)), ("judges", (1, 2))])

    def test_most_that_is_fit(self):
        judges = (THREE[1], THREE[1], THREE[2])
        self.assertEqual(MOST.row(PREMISES, judges), (True, False, False))
        self.assertEqual(MOST.reasons(PREMISES, judges), [
            ("judges", (0, 1)), ("judges", (0, 1)), ("judges", (0, 1, 2)),
        ])

    def test_most_of_every_list(self):
        draw = random.Random(41)
        seen = {True: 0, False: 0}
        for sayings in LISTS:
            rows = rows_of(sayings)
            for judges in all_judges(draw, rows):
                row = what_most_say(judges)
                self.check(MOST, row, sayings, judges)
                seen[row in rows] = seen[row in rows] + 1
        self.assertGreater(min(seen.values()), 50)

    def test_the_first_of_the_nearest(self):
        self.assertEqual(NEAREST.row(PREMISES, THREE), (False, True, False))
        self.assertEqual(NEAREST.reasons(PREMISES, THREE), [("judges", (2,)), ("judges", (0, 2)), ("judges", (1, 2))])
        self.assertEqual(Nearest((1, 1, 1)).row(PREMISES, THREE), (False, True, False))
        self.assertEqual(Nearest((2, 2, 1)).row(PREMISES, THREE), (True, True, True))
        self.assertEqual(Nearest((2, 2, 1)).reasons(PREMISES, THREE), [
            ("judges", (0, 1)), ("judges", (0, 2)), ("judges", (0,)),
        ])

    def test_a_nearest_answer_that_nobody_says(self):
        # By these weights four rows are as near, and the first one of them is told.
        self.assertEqual(Nearest((3, 3, 3, 1)).row(ALL_THREE, TWO_OF_THREE), (False, True, True, False))
        way = Nearest((4, 4, 4, 1))
        self.assertEqual(way.row(ALL_THREE, TWO_OF_THREE), (True, True, True, True))
        self.assertEqual(way.reasons(ALL_THREE, TWO_OF_THREE), [
            ("judges", (0, 1)), ("judges", (0, 2)), ("judges", (1, 2)), ("judges", ()),
        ])

    def test_nearest_of_every_list(self):
        draw = random.Random(42)
        ties = 0
        for sayings in LISTS:
            rows = rows_of(sayings)
            for judges in all_judges(draw, rows, (1, 3, 9, 21)):
                for way, weights in ((NEAREST, None), (WEIGHTED[len(sayings)], WEIGHTS)):
                    near = nearest_of(rows, judges, weights)
                    self.check(way, near[0], sayings, judges)
                    ties = ties + (len(near) > 1)
        self.assertGreater(ties, 50)

    def test_nearest_of_all_threes_of_judges(self):
        rows = rows_of(ALL_THREE)
        nobody = 0
        for weights in ((4, 4, 4, 1), (9, 8, 7, 1), (10 ** 20 - 1, 10 ** 20 - 1, 10 ** 20 - 1, 10 ** 19)):
            way = Nearest(weights)
            for judges in itertools.product(rows, repeat=3):
                nobody = nobody + self.check(way, nearest_of(rows, judges, weights)[0], ALL_THREE, judges)
        self.assertGreater(nobody, 10)


class Orders(Reasons):
    """The ways that take answers in an order."""

    def check(self, way, order, sayings, judges):
        row, reasons = way.row(sayings, judges), way.reasons(sayings, judges)
        self.assertEqual(row, row_in_order(rows_of(sayings), judges, order))
        return self.check_in_order(row, reasons, rows_of(sayings), judges, order)

    def test_in_order(self):
        way = InOrder((2, 0, 1))
        self.assertEqual(way.row(PREMISES, THREE), (True, False, False))
        self.assertEqual(way.reasons(PREMISES, THREE), [
            ("judges", (0, 1)), ("follows", ((0, True), (2, False))), ("judges", (1, 2)),
        ])

    def test_in_order_of_every_list(self):
        draw = random.Random(43)
        others = 0
        for sayings in LISTS:
            many = len(sayings)
            drawn = tuple(draw.sample(range(many), many))
            for judges in all_judges(draw, rows_of(sayings), (1, 5, 21)):
                others = others + self.check(RISING[many], tuple(range(many)), sayings, judges)
                others = others + self.check(FALLING[many], tuple(range(many))[::-1], sayings, judges)
                others = others + self.check(InOrder(drawn), drawn, sayings, judges)
                self.assertEqual(RISING[many].row(sayings, judges), in_order(sayings, judges, tuple(range(many)))[0])
        self.assertGreater(others, 100)

    def test_alike_strengths_go_by_their_numbers(self):
        # Each saying has two against one, so the last one has to follow.
        self.assertEqual(BY_STRENGTH.row(PREMISES, THREE), (True, True, True))
        self.assertEqual(BY_STRENGTH.reasons(PREMISES, THREE), [
            ("judges", (0, 1)), ("judges", (0, 2)), ("follows", ((0, True), (1, True))),
        ])
        turned = (("and", A, B), B, A)
        judges = tuple(row[::-1] for row in THREE)
        self.assertEqual(BY_STRENGTH.row(turned, judges), (False, True, False))
        self.assertEqual(BY_STRENGTH.reasons(turned, judges)[2], ("follows", ((0, False), (1, True))))

    def test_the_stronger_one_goes_ahead_of_a_less_number(self):
        yes, only_a, only_b = THREE
        # Yes and no: 3 and 2, 4 and 1, 2 and 3, so that the saying 1 goes first, then 0.
        judges = (yes, yes, only_b, only_b, only_a)
        self.assertEqual(order_by_strength(judges), (1, 0, 2))
        self.assertEqual(BY_STRENGTH.row(PREMISES, judges), (True, True, True))
        # Yes and no: 3 and 2, 3 and 2, 1 and 4: the strongest says no, then the saying 0 is ahead of the saying 1.
        judges = (yes, only_a, only_a, only_b, only_b)
        self.assertEqual(order_by_strength(judges), (2, 0, 1))
        self.assertEqual(BY_STRENGTH.row(PREMISES, judges), (True, False, False))
        self.assertEqual(BY_STRENGTH.reasons(PREMISES, judges), [
            ("judges", (0, 1, 2)), ("follows", ((0, True), (2, False))), ("judges", (1, 2, 3, 4)),
        ])

    def test_no_is_as_strong_as_yes(self):
        sayings = (A, B, ("or", A, B))
        judges = ((False, False, False), (True, False, True), (False, True, True), (True, False, True),
                  (False, False, False), (False, True, True), (False, False, False))
        # Yes: 2, 2 and 4 of seven, so that both noes come ahead.
        self.assertEqual(BY_STRENGTH.row(sayings, judges), (False, False, False))
        self.assertEqual(BY_STRENGTH.reasons(sayings, judges)[2], ("follows", ((0, False), (1, False))))

    def test_by_strength_of_every_list(self):
        draw = random.Random(44)
        others, alike, moved = 0, 0, 0
        for sayings in LISTS:
            for judges in all_judges(draw, rows_of(sayings), (1, 3, 5, 7, 21)):
                order = order_by_strength(judges)
                others = others + self.check(BY_STRENGTH, order, sayings, judges)
                strengths = [max(len(who(judges, number, truth)) for truth in (True, False)) for number in order]
                self.assertEqual(strengths, sorted(strengths, reverse=True))
                alike = alike + (len(set(strengths)) < len(strengths))
                moved = moved + (order != tuple(sorted(order)))
        self.assertGreater(min(others, alike, moved), 50)

    def test_by_strength_keeps_what_all_say_alike(self):
        draw = random.Random(45)
        seen = 0
        for sayings in LISTS:
            for judges in all_judges(draw, rows_of(sayings), (3, 3, 5)):
                row = BY_STRENGTH.row(sayings, judges)
                for number in range(len(sayings)):
                    if len({judge[number] for judge in judges}) == 1:
                        self.assertIs(row[number], judges[0][number])
                        seen = seen + 1
        self.assertGreater(seen, 100)

    def test_each_odd_number_of_judges(self):
        draw = random.Random(46)
        sayings = (A, B, C, ("and", A, ("or", B, C)), ("if", C, A), no(B))
        for many in range(1, 22, 2):
            for _ in range(5):
                judges = some_judges(draw, rows_of(sayings), many)
                self.check(BY_STRENGTH, order_by_strength(judges), sayings, judges)
                self.check(FALLING[6], (5, 4, 3, 2, 1, 0), sayings, judges)


class Point2(unittest.TestCase):
    def test_what_is_handed_in_stays(self):
        handed = (PREMISES, THREE, (2, 0, 1), (3, 1, 2))
        before = copy.deepcopy(handed)
        for way in (MOST, InOrder(handed[2]), BY_STRENGTH, NEAREST, Nearest(handed[3])):
            way.row(PREMISES, THREE), way.reasons(PREMISES, THREE)
        self.assertEqual(handed, before)

    def test_told_reasons_are_the_askers(self):
        for way in ways_for(3):
            first = copy.deepcopy(way.reasons(PREMISES, THREE))
            told = way.reasons(PREMISES, THREE)
            told.clear()
            told.append("mine")
            self.assertEqual(way.reasons(PREMISES, THREE), first)
            self.assertIsNot(way.reasons(PREMISES, THREE), way.reasons(PREMISES, THREE))

    def test_one_way_asked_of_several_lists_by_turns(self):
        draw = random.Random(47)
        for sayings, other in zip(LISTS, LISTS[1:] + LISTS[:1]):
            judges, others = some_judges(draw, rows_of(sayings), 3), some_judges(draw, rows_of(other), 5)
            fresh = [Most(), InOrder(tuple(range(len(sayings)))), InOrder(tuple(range(len(sayings)))[::-1]),
                     ByStrength(), Nearest(), Nearest(WEIGHTS[:len(sayings)])]
            for way, new in zip(ways_for(len(sayings)), fresh):
                first = self.rows_and_kinds(way, sayings, judges)
                for between in ways_for(len(other)):
                    between.row(other, others), between.reasons(other, others)
                self.assertEqual(self.rows_and_kinds(way, sayings, judges), first)
                self.assertEqual(self.rows_and_kinds(new, sayings, judges), first)

    def rows_and_kinds(self, way, sayings, judges):
        # Which part is told is any one, so a reason that follows is held alike by its kind alone.
        kinds = [reason if reason[0] == "judges" else "follows" for reason in way.reasons(sayings, judges)]
        return way.row(sayings, judges), kinds

    def test_two_ways_of_one_class_keep_apart(self):
        one, other = InOrder((0, 1, 2)), InOrder((2, 1, 0))
        self.assertEqual((one.row(PREMISES, THREE), other.row(PREMISES, THREE)), ((True,) * 3, (False, True, False)))
        one, other = Nearest((2, 2, 1)), Nearest()
        self.assertEqual((one.row(PREMISES, THREE), other.row(PREMISES, THREE)), ((True,) * 3, (False, True, False)))


class Beyond(unittest.TestCase):
    def test_somewhat_beyond_the_bounds_nothing_is_refused(self):
        letters = FIVE_NAMES + ("f",)
        sayings = tuple(("letter", name) for name in letters) + (and_of(letters),)
        judges = some_judges(random.Random(48), rows_of(sayings), 25)
        rows, order = rows_of(sayings), (6, 5, 4, 3, 2, 1, 0)
        weights = (10 ** 21,) * 6 + (1,)
        self.assertEqual(Most().row(sayings, judges), what_most_say(judges))
        self.assertEqual(InOrder(order).row(sayings, judges), row_in_order(rows, judges, order))
        self.assertEqual(ByStrength().row(sayings, judges), row_in_order(rows, judges, order_by_strength(judges)))
        self.assertEqual(Nearest(weights).row(sayings, judges), nearest_of(rows, judges, weights)[0])
        self.assertEqual(Nearest().row(sayings, judges), nearest_of(rows, judges, None)[0])


if __name__ == "__main__":
    unittest.main()
