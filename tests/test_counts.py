"""Point 11: who says a truth to a saying, and what most judges say."""

import copy
import random
import unittest

from manyjudges.counts import most, who_say
from samples import LISTS, THREE, is_row, rows_of, some_judges


def plain_numbers(judges, number, truth):
    numbers = []
    for judge in range(len(judges)):
        if judges[judge][number] is truth:
            numbers.append(judge)
    return numbers


class WhoSay(unittest.TestCase):
    def test_three_judges(self):
        self.assertEqual(who_say(THREE, 0, True), [0, 1])
        self.assertEqual(who_say(THREE, 0, False), [2])
        self.assertEqual(who_say(THREE, 1, True), [0, 2])
        self.assertEqual(who_say(THREE, 2, False), [1, 2])

    def test_nobody_and_everybody(self):
        alike = ((True, False),) * 21
        self.assertEqual(who_say(alike, 0, False), [])
        self.assertEqual(who_say(alike, 1, True), [])
        self.assertEqual(who_say(alike, 0, True), list(range(21)))
        self.assertEqual(who_say(alike, 1, False), list(range(21)))

    def test_one_up_to_twenty_one_judges(self):
        draw = random.Random(11)
        for many in range(1, 22):
            for sayings in LISTS[::4]:
                judges = some_judges(draw, rows_of(sayings), many)
                for number in range(len(sayings)):
                    for truth in (True, False):
                        told = who_say(judges, number, truth)
                        self.assertIs(type(told), list)
                        self.assertEqual(told, plain_numbers(judges, number, truth))
                        self.assertTrue(all(type(judge) is int for judge in told))


class Most(unittest.TestCase):
    def test_three_judges(self):
        self.assertEqual(most(THREE), (True, True, False))

    def test_one_judge(self):
        for row in ((True,), (False,), (True, False, True, True, False, False)):
            self.assertEqual(most((row,)), row)

    def test_one_more_than_half(self):
        for many in range(1, 22, 2):
            for yes in range(many + 1):
                judges = ((True, False),) * yes + ((False, True),) * (many - yes)
                told = 2 * yes > many
                self.assertEqual(most(judges), (told, not told))
                self.assertEqual(most(judges[::-1]), (told, not told))

    def test_one_up_to_twenty_one_judges(self):
        draw = random.Random(12)
        for many in range(1, 22, 2):
            for sayings in LISTS[::3]:
                judges = some_judges(draw, rows_of(sayings), many)
                told = most(judges)
                self.assertTrue(is_row(told, len(sayings)))
                for number, truth in enumerate(told):
                    self.assertGreater(2 * len(plain_numbers(judges, number, truth)), many)


class Point2(unittest.TestCase):
    def test_what_is_handed_in_stays(self):
        judges = THREE + THREE[:2]
        before = copy.deepcopy(judges)
        who_say(judges, 1, True), most(judges)
        self.assertEqual(judges, before)

    def test_a_told_list_is_the_askers(self):
        told = who_say(THREE, 0, True)
        told.append(9)
        self.assertEqual(who_say(THREE, 0, True), [0, 1])
        who_say(((True,),), 0, False).append(9)
        self.assertEqual(who_say(((True,),), 0, False), [])
        self.assertEqual(most(THREE), (True, True, False))

    def test_asked_again_with_other_judges_between(self):
        first = who_say(THREE, 1, False), most(THREE)
        who_say(THREE[::-1], 1, False), most(((False, False, False),))
        self.assertEqual((who_say(THREE, 1, False), most(THREE)), first)


class Beyond(unittest.TestCase):
    def test_somewhat_beyond_the_bounds_nothing_is_refused(self):
        judges = ((True,) * 8,) * 12 + ((False,) * 8,) * 13
        self.assertEqual(most(judges), (False,) * 8)
        self.assertEqual(who_say(judges, 7, False), list(range(12, 25)))


if __name__ == "__main__":
    unittest.main()
