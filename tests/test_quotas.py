"""Points 15 and 16, and point 10 which rests on 16: outcomes, the least quota, and judges against a lower one."""

import copy
import itertools
import random
import unittest

from manyjudges.counts import most
from manyjudges.parts import always_fit
from manyjudges.quotas import against, least_quota, outcome
from samples import (
    A, B, C, FIVE_NAMES, LISTS, PREMISES, THREE, and_of, is_fit, no, rows_of, smallest_of, some_judges, what_most_say,
)

# For all five letters and the and of them, so that a smallest unfit part has six pairs.
SIX = tuple(("letter", name) for name in FIVE_NAMES) + (and_of(FIVE_NAMES),)


def quotas_for(many):
    return [quota for quota in range(1, many + 1) if 2 * quota > many]


def outcome_of(judges, quota):
    answers = []
    for column in zip(*judges):
        yes = len([truth for truth in column if truth is True])
        answers.append(True if yes >= quota else False if len(column) - yes >= quota else None)
    return tuple(answers)


def truths_of(answers):
    return [pair for pair in enumerate(answers) if pair[1] is not None]


def longest_of(sayings):
    return max([len(part) for part in smallest_of(rows_of(sayings), len(sayings))], default=None)


def least_by_point_15(longest, many):
    if longest is not None:
        told = many * (longest - 1) // longest + 1
        if 2 * told > many:
            return told
    return min(quota for quota in range(many + 2) if 2 * quota > many)


def least_by_all_judges(rows, many):
    """The order of judges is nothing to an outcome, so each choice of rows is tried once."""
    unsure = quotas_for(many)
    for judges in itertools.combinations_with_replacement(rows, many):
        while not is_fit(rows, truths_of(outcome_of(judges, unsure[0]))):
            unsure.pop(0)
    return unsure[0]


class Outcome(unittest.TestCase):
    def test_written_ones(self):
        self.assertEqual(outcome(THREE, 2), (True, True, False))
        self.assertEqual(outcome(THREE, 3), (None, None, None))
        self.assertEqual(outcome((THREE[0], THREE[1]), 2), (True, None, None))
        self.assertEqual(outcome((THREE[1], THREE[2]), 2), (None, None, False))
        self.assertEqual(outcome((THREE[1],), 1), THREE[1])

    def test_just_so_many_and_one_less(self):
        for many in range(1, 22):
            for quota in quotas_for(many):
                for yes in range(many + 1):
                    judges = ((True, False),) * yes + ((False, True),) * (many - yes)
                    told = True if yes >= quota else False if many - yes >= quota else None
                    other = None if told is None else not told
                    for turned in (judges, judges[::-1]):
                        self.assertEqual(outcome(turned, quota), (told, other))

    def test_each_quota_of_one_up_to_twenty_one_judges(self):
        draw = random.Random(31)
        seen = []
        for many in range(1, 22):
            for sayings in LISTS[many % 3::3]:
                judges = some_judges(draw, rows_of(sayings), many)
                for quota in quotas_for(many):
                    told = outcome(judges, quota)
                    self.assertIs(type(told), tuple)
                    self.assertTrue(all(truth is None or type(truth) is bool for truth in told))
                    self.assertEqual(told, outcome_of(judges, quota))
                    seen.extend(told)
        for truth in (True, False, None):
            self.assertGreater(seen.count(truth), 500)

    def test_the_least_quota_of_an_odd_number_tells_most(self):
        draw = random.Random(32)
        for many in range(1, 22, 2):
            for sayings in LISTS[many % 5::5]:
                judges = some_judges(draw, rows_of(sayings), many)
                self.assertEqual(outcome(judges, many // 2 + 1), what_most_say(judges))


class LeastQuota(unittest.TestCase):
    def test_written_ones(self):
        self.assertEqual([least_quota(PREMISES, many) for many in range(1, 22)], [
            1, 2, 3, 3, 4, 5, 5, 6, 7, 7, 8, 9, 9, 10, 11, 11, 12, 13, 13, 14, 15,
        ])
        self.assertEqual([least_quota(SIX, many) for many in range(1, 22)], [
            1, 2, 3, 4, 5, 6, 6, 7, 8, 9, 10, 11, 11, 12, 13, 14, 15, 16, 16, 17, 18,
        ])

    def test_more_than_half_where_parts_are_short_or_there_are_none(self):
        more_than_half = [1, 2, 2, 3, 3, 4, 4, 5, 5, 6, 6, 7, 7, 8, 8, 9, 9, 10, 10, 11, 11]
        for sayings in ((A,), (A, B), (("or", A, no(A)),), (("and", A, no(A)), B), (A, no(A)), (A, ("and", A, B))):
            self.assertEqual([least_quota(sayings, many) for many in range(1, 22)], more_than_half)

    def test_every_list_by_the_points_own_reckoning(self):
        lengths = set()
        for sayings in LISTS:
            longest = longest_of(sayings)
            lengths.add(longest)
            for many in range(1, 22):
                told = least_quota(sayings, many)
                self.assertIs(type(told), int)
                self.assertEqual(told, least_by_point_15(longest, many), (sayings, many))
                self.assertIn(told, quotas_for(many))
        self.assertEqual(lengths, {None, 1, 2, 3, 4, 5, 6})

    def test_by_all_judges_that_can_be(self):
        above_half = 0
        for sayings in LISTS:
            rows = rows_of(sayings)
            for many in range(1, {1: 22, 2: 22, 3: 13, 4: 9, 5: 7, 6: 6, 7: 5, 8: 5}.get(len(rows), 1)):
                told = least_quota(sayings, many)
                self.assertEqual(told, least_by_all_judges(rows, many), (sayings, many))
                above_half = above_half + (told > quotas_for(many)[0])
        self.assertGreater(above_half, 30)


class Against(unittest.TestCase):
    def check(self, sayings, many, quota, least):
        """Tells whether judges are told."""
        rows = rows_of(sayings)
        told = against(sayings, many, quota)
        if quota >= least:
            self.assertIsNone(told)
            return False
        self.assertEqual((type(told), len(told)), (tuple, many))
        for row in told:
            self.assertIn(row, rows)
            self.assertTrue(type(row) is tuple and all(type(truth) is bool for truth in row))
        self.assertFalse(is_fit(rows, truths_of(outcome_of(told, quota))), (sayings, many, quota))
        return True

    def test_three_judges_and_two_premises(self):
        self.assertTrue(self.check(PREMISES, 3, 2, 3))
        self.assertEqual(sorted(against(PREMISES, 3, 2)), sorted(THREE))
        self.assertIsNone(against(PREMISES, 3, 3))

    def test_one_and_two_judges_have_none_against_them(self):
        for sayings in LISTS:
            self.assertIsNone(against(sayings, 1, 1))
            self.assertIsNone(against(sayings, 2, 2))

    def test_each_quota_of_each_number_for_some_lists(self):
        told = 0
        for sayings in (PREMISES, (A, B), (no(A), A), (A, B, C, ("or", A, ("or", B, C))), (A, ("if", A, B), B)):
            for many in range(1, 22):
                least = least_by_point_15(longest_of(sayings), many)
                for quota in quotas_for(many):
                    told = told + self.check(sayings, many, quota, least)
        self.assertGreater(told, 50)

    def test_every_list(self):
        draw = random.Random(33)
        told = 0
        for sayings in LISTS:
            longest = longest_of(sayings)
            for many in (3, 4, draw.randrange(5, 21), 21):
                least = least_by_point_15(longest, many)
                for quota in {least - 1, least, quotas_for(many)[0], many}:
                    if quota in quotas_for(many):
                        told = told + self.check(sayings, many, quota, least)
        self.assertGreater(told, 100)

    def test_one_less_than_the_least_where_that_is_a_quota(self):
        for sayings in (SIX, LISTS[14], LISTS[15], LISTS[17]):
            for many in range(1, 22):
                least = least_quota(sayings, many)
                self.assertEqual(against(sayings, many, least), None)
                if least - 1 in quotas_for(many):
                    self.assertTrue(self.check(sayings, many, least - 1, least))

    def test_against_most(self):
        """Point 10: three judges whose most isn't fit, just where most isn't always fit."""
        seen = {True: 0, False: 0}
        for sayings in LISTS:
            told = against(sayings, 3, 2)
            self.assertIs(told is None, always_fit(sayings))
            seen[told is None] = seen[told is None] + 1
            if told is not None:
                self.assertEqual(len(told), 3)
                self.assertLessEqual(set(told), set(rows_of(sayings)))
                self.assertNotIn(most(told), rows_of(sayings))
        self.assertGreater(min(seen.values()), 10)


class Point2(unittest.TestCase):
    def test_what_is_handed_in_stays(self):
        handed = (PREMISES, THREE)
        before = copy.deepcopy(handed)
        outcome(THREE, 2), least_quota(PREMISES, 3), against(PREMISES, 3, 2), against(PREMISES, 3, 3)
        self.assertEqual(handed, before)

    def test_asked_again_with_another_list_between(self):
        draw = random.Random(34)
        for sayings, other in zip(LISTS, LISTS[1:] + LISTS[:1]):
            judges, others = some_judges(draw, rows_of(sayings), 4), some_judges(draw, rows_of(other), 5)

            def told():
                # Which judges are told is any such, so it is held alike whether there are some.
                return outcome(judges, 3), least_quota(sayings, 4), against(sayings, 3, 2) is None

            first = told()
            outcome(others, 5), least_quota(other, 21), against(other, 5, 3)
            self.assertEqual(told(), first)


class Beyond(unittest.TestCase):
    def test_somewhat_beyond_the_bounds_nothing_is_refused(self):
        sayings = tuple(("letter", name) for name in FIVE_NAMES + ("f",)) + (and_of(FIVE_NAMES + ("f",)),)
        self.assertEqual(least_quota(sayings, 24), 24 * 6 // 7 + 1)
        told = against(sayings, 24, 20)
        self.assertEqual(len(told), 24)
        self.assertFalse(is_fit(rows_of(sayings), truths_of(outcome(told, 20))))
        self.assertIsNone(against(sayings, 24, 21))

    def test_a_number_that_is_no_quota_is_not_refused(self):
        self.assertEqual(outcome(THREE, 4), (None, None, None))
        for sayings in (PREMISES, (A, B), (A, no(A)), (("or", A, no(A)),)):
            for many in range(1, 5):
                self.assertIsNone(against(sayings, many, many + 1))
                for low in range(many // 2 + 1):
                    against(sayings, many, low)
                    outcome((THREE * 2)[:many], low)


if __name__ == "__main__":
    unittest.main()
