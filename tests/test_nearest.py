"""Point 14: the distance of a row from judges, and the nearest rows."""

import copy
import itertools
import random
import unittest

from manyjudges.nearest import distance, nearest
from samples import (
    A, B, C, FIVE_NAMES, LISTS, PREMISES, THREE, distance_of, is_row, nearest_of, no, rows_of, some_judges,
    unfit_threes, what_most_say,
)

TWENTY_FIGURES = 10 ** 20 - 1


def some_weights(draw, many):
    """Left out, 1 each, alike, small, of twenty figures, and such beside small ones."""
    return [
        None,
        (1,) * many,
        (draw.randrange(2, 100),) * many,
        tuple(draw.randrange(1, 5) for _ in range(many)),
        tuple(draw.randrange(10 ** 19, 10 ** 20) for _ in range(many)),
        tuple(draw.choice((1, 2, TWENTY_FIGURES - 1, TWENTY_FIGURES)) for _ in range(many)),
        (TWENTY_FIGURES,) * many,
    ]


class Distance(unittest.TestCase):
    def test_written_ones(self):
        self.assertEqual(distance((True, True, True), THREE), 4)
        self.assertEqual(distance((False, False, False), THREE), 5)
        self.assertEqual(distance((True, True, False), THREE), 3)
        self.assertEqual(distance((True, True, True), THREE, (1, 1, 1)), 4)
        self.assertEqual(distance((True, True, True), THREE, (3, 5, 100)), 208)
        self.assertEqual(distance((False, True, False), THREE, (3, 5, 100)), 2 * 3 + 5 + 100)

    def test_none_from_judges_who_say_alike(self):
        for many in range(1, 22):
            for weights in (None, (7,) * 3, (TWENTY_FIGURES,) * 3):
                told = distance(THREE[0], (THREE[0],) * many, weights)
                self.assertEqual((told, type(told)), (0, int))

    def test_each_judge_and_each_saying_counts(self):
        for many in range(1, 22):
            self.assertEqual(distance((True,), ((False,),) * many), many)
            self.assertEqual(distance((True,) * 6, ((False,) * 6,) * many), 6 * many)
            self.assertEqual(distance((True,) * 6, ((False,) * 6,) * many, (1, 2, 4, 8, 16, 32)), 63 * many)

    def test_twenty_figures_are_told_to_the_last_one(self):
        weights = (TWENTY_FIGURES, TWENTY_FIGURES - 1, 1)
        self.assertEqual(distance((True, True, True), ((False, False, True),) * 21, weights),
                         21 * (2 * 10 ** 20 - 3))
        self.assertEqual(distance((True, True, True), ((False, True, False),), weights), 10 ** 20)

    def test_every_row_fit_or_not(self):
        draw = random.Random(21)
        for many in range(1, 22):
            sayings = draw.randrange(1, 7)
            every = list(itertools.product((False, True), repeat=sayings))
            judges = some_judges(draw, every, many)
            for weights in some_weights(draw, sayings):
                for row in every:
                    told = distance(row, judges, weights)
                    self.assertIs(type(told), int)
                    self.assertEqual(told, distance_of(row, judges, weights))


class NearestRows(unittest.TestCase):
    def check(self, sayings, judges, weights):
        """Tells how many are nearest."""
        told = nearest(sayings, judges, weights)
        self.assertIs(type(told), list)
        self.assertTrue(all(is_row(row, len(sayings)) for row in told))
        self.assertEqual(told, nearest_of(rows_of(sayings), judges, weights), (sayings, judges, weights))
        return len(told)

    def test_two_premises(self):
        self.assertEqual(nearest(PREMISES, THREE), [
            (False, True, False), (True, False, False), (True, True, True),
        ])
        self.assertEqual(nearest(PREMISES, THREE, (1, 2, 2)), [(False, True, False)])
        self.assertEqual(nearest(PREMISES, THREE, (2, 2, 1)), [(True, True, True)])
        self.assertEqual(nearest(PREMISES, THREE, (1, 1, 2)), [(False, True, False), (True, False, False)])

    def test_an_even_number_of_judges(self):
        self.assertEqual(nearest((A,), ((True,), (False,))), [(False,), (True,)])
        self.assertEqual(nearest((A,), ((True,), (True,))), [(True,)])
        self.assertEqual(nearest((A, B), ((True, False), (True, True))), [(True, False), (True, True)])
        self.assertEqual(nearest(PREMISES, (THREE[1], THREE[2])), [
            (False, False, False), (False, True, False), (True, False, False),
        ])

    def test_one_judge_is_the_nearest_alone(self):
        draw = random.Random(22)
        for sayings in LISTS:
            for row in rows_of(sayings):
                for weights in draw.sample(some_weights(draw, len(sayings)), 2):
                    self.assertEqual(nearest(sayings, (row,), weights), [row])

    def test_a_weight_of_twenty_figures_is_held_to_the_last_one(self):
        sayings = (A, B, ("if", A, no(B)))
        judges = ((True, True, False), (True, False, True), (False, True, True))
        least = 10 ** 19
        self.assertEqual(nearest(sayings, judges, (least, least, least + 1)), [
            (False, True, True), (True, False, True),
        ])
        self.assertEqual(nearest(sayings, judges, (least + 1, least, least)), [
            (True, False, True), (True, True, False),
        ])
        self.assertEqual(nearest(sayings, judges, (least + 1, least, least + 1)), [(True, False, True)])

    def test_every_list(self):
        draw = random.Random(23)
        seen = []
        for sayings in LISTS:
            rows = rows_of(sayings)
            for judges in [some_judges(draw, rows, many) for many in (2, 3, 4)] + unfit_threes(rows)[:1]:
                for weights in some_weights(draw, len(sayings))[::3]:
                    seen.append(self.check(sayings, judges, weights))
        self.assertGreater(len([many for many in seen if many > 2]), 50)

    def test_one_up_to_twenty_one_judges(self):
        draw = random.Random(24)
        for many in range(1, 22):
            for sayings in LISTS[many % 9::9]:
                judges = some_judges(draw, rows_of(sayings), many)
                for weights in some_weights(draw, len(sayings)):
                    self.check(sayings, judges, weights)

    def test_weights_that_are_alike_are_as_if_left_out(self):
        draw = random.Random(25)
        for sayings in LISTS[::3]:
            judges = some_judges(draw, rows_of(sayings), draw.randrange(1, 22))
            for weight in (1, 9, TWENTY_FIGURES):
                self.assertEqual(nearest(sayings, judges, (weight,) * len(sayings)), nearest(sayings, judges))

    def test_no_other_fit_row_is_as_near(self):
        draw = random.Random(26)
        for sayings in LISTS[::2]:
            rows = rows_of(sayings)
            judges = some_judges(draw, rows, draw.randrange(1, 22))
            for weights in some_weights(draw, len(sayings))[::2]:
                told = nearest(sayings, judges, weights)
                least = {distance(row, judges, weights) for row in told}
                self.assertEqual(len(least), 1)
                for row in rows:
                    if row not in told:
                        self.assertGreater(distance(row, judges, weights), max(least))

    def test_most_is_nearest_where_it_is_fit(self):
        draw = random.Random(27)
        seen = 0
        for many in range(1, 22, 2):
            for sayings in LISTS[many % 4::4]:
                rows = rows_of(sayings)
                judges = some_judges(draw, rows, many)
                if what_most_say(judges) in rows:
                    self.assertIn(what_most_say(judges), nearest(sayings, judges))
                    seen = seen + 1
        self.assertGreater(seen, 100)


class Point2(unittest.TestCase):
    def test_what_is_handed_in_stays(self):
        handed = (PREMISES, THREE, (2, 2, 1))
        before = copy.deepcopy(handed)
        nearest(PREMISES, THREE, handed[2]), nearest(PREMISES, THREE), distance(THREE[0], THREE, handed[2])
        self.assertEqual(handed, before)

    def test_a_told_list_is_the_askers(self):
        first = nearest(PREMISES, THREE)
        told = nearest(PREMISES, THREE)
        told.clear()
        told.append("mine")
        self.assertEqual(nearest(PREMISES, THREE), first)
        self.assertIsNot(nearest(PREMISES, THREE), nearest(PREMISES, THREE))

    def test_asked_again_with_another_list_between(self):
        draw = random.Random(28)
        for sayings, other in zip(LISTS, LISTS[1:] + LISTS[:1]):
            judges, others = some_judges(draw, rows_of(sayings), 3), some_judges(draw, rows_of(other), 4)
            weights = some_weights(draw, len(other))[4]
            first = nearest(sayings, judges), distance(judges[0], judges)
            nearest(other, others, weights), distance(others[0], others, weights)
            self.assertEqual((nearest(sayings, judges), distance(judges[0], judges)), first)


class Beyond(unittest.TestCase):
    def test_somewhat_beyond_the_bounds_nothing_is_refused(self):
        sayings = tuple(("letter", name) for name in FIVE_NAMES + ("f",)) + (("and", A, ("and", B, C)),)
        judges = some_judges(random.Random(29), rows_of(sayings), 24)
        weights = (10 ** 21 + 1, 10 ** 21, 10 ** 22, 1, 5, 7, 10 ** 21)
        self.assertEqual(nearest(sayings, judges, weights), nearest_of(rows_of(sayings), judges, weights))
        self.assertEqual(nearest(sayings, judges), nearest_of(rows_of(sayings), judges, None))
        # A weight of 0 is below the least one that is told, and no judges are fewer than are told.
        self.assertEqual(distance((True, False), ((False, True),), (0, 3)), 3)
        self.assertEqual(distance((True, False), ()), 0)
        self.assertEqual(nearest(PREMISES, ()), rows_of(PREMISES))


if __name__ == "__main__":
    unittest.main()
