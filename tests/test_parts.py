"""Points 9 and 10: the smallest unfit parts, and whether most is always fit."""

import copy
import itertools
import random
import unittest

from manyjudges.parts import always_fit, smallest_unfit
from samples import (
    A, B, C, FIVE_NAMES, LISTS, PREMISES, all_parts_of, and_of, chain_of_not, is_fit, is_part, no, rows_of,
    smallest_of, some_judges, what_most_say,
)


def most_of_three_is_fit(rows):
    return all(what_most_say(three) in rows for three in itertools.combinations_with_replacement(rows, 3))


class SmallestUnfit(unittest.TestCase):
    def test_a_saying_that_is_always_or_never_so(self):
        self.assertEqual(smallest_unfit((("or", A, no(A)),)), [((0, False),)])
        self.assertEqual(smallest_unfit((("and", A, no(A)),)), [((0, True),)])
        self.assertEqual(smallest_unfit((B, ("or", A, no(A)), B)), [
            ((0, False), (2, True)), ((0, True), (2, False)), ((1, False),),
        ])

    def test_none_where_every_row_is_fit(self):
        self.assertEqual(smallest_unfit((A,)), [])
        self.assertEqual(smallest_unfit((A, B)), [])
        self.assertEqual(smallest_unfit(tuple(("letter", name) for name in FIVE_NAMES)), [])

    def test_two_premises(self):
        self.assertEqual(smallest_unfit(PREMISES), [
            ((0, False), (2, True)),
            ((0, True), (1, True), (2, False)),
            ((1, False), (2, True)),
        ])

    def test_a_part_of_all_six_sayings(self):
        letters = tuple(("letter", name) for name in FIVE_NAMES)
        told = smallest_unfit(letters + (and_of(FIVE_NAMES),))
        self.assertEqual(told, sorted(
            [((number, False), (5, True)) for number in range(5)]
            + [tuple((number, True) for number in range(5)) + ((5, False),)]
        ))

    def test_every_list(self):
        lengths = set()
        for sayings in LISTS:
            told = smallest_unfit(sayings)
            self.assertIs(type(told), list)
            self.assertEqual(told, smallest_of(rows_of(sayings), len(sayings)), sayings)
            for part in told:
                self.assertTrue(is_part(part))
                lengths.add(len(part))
        self.assertEqual(lengths, {1, 2, 3, 4, 5, 6})

    def test_a_part_is_unfit_just_where_it_has_a_smallest_one(self):
        for sayings in LISTS:
            rows = rows_of(sayings)
            told = [set(part) for part in smallest_unfit(sayings)]
            for part in all_parts_of(len(sayings)):
                self.assertEqual(not is_fit(rows, part), any(small <= set(part) for small in told))


class AlwaysFit(unittest.TestCase):
    def test_written_ones(self):
        self.assertIs(always_fit((A,)), True)
        self.assertIs(always_fit((A, B)), True)
        self.assertIs(always_fit((A, A, no(A))), True)
        self.assertIs(always_fit((A, ("and", A, B))), True)
        self.assertIs(always_fit((("or", A, no(A)),)), True)
        self.assertIs(always_fit((("and", A, no(A)), A)), True)
        self.assertIs(always_fit(PREMISES), False)
        self.assertIs(always_fit((A, ("if", A, B), B)), False)
        self.assertIs(always_fit((A, B, C, ("or", A, ("or", B, C)))), False)

    def test_every_list_by_all_threes_of_judges(self):
        seen = {True: 0, False: 0}
        for sayings in LISTS:
            rows = rows_of(sayings)
            told = always_fit(sayings)
            self.assertIs(type(told), bool)
            self.assertIs(told, most_of_three_is_fit(rows), sayings)
            seen[told] = seen[told] + 1
        self.assertGreater(min(seen.values()), 10)

    def test_where_it_is_told_most_of_more_judges_is_fit(self):
        draw = random.Random(10)
        for sayings in [sayings for sayings in LISTS if always_fit(sayings)]:
            rows = rows_of(sayings)
            for many in (1, 5, 7, 21):
                self.assertIn(what_most_say(some_judges(draw, rows, many)), rows)


class Point2(unittest.TestCase):
    def test_what_is_handed_in_stays(self):
        for sayings in LISTS:
            before = copy.deepcopy(sayings)
            smallest_unfit(sayings), always_fit(sayings)
            self.assertEqual(sayings, before)

    def test_a_told_list_is_the_askers(self):
        first = smallest_unfit(PREMISES)
        first.clear()
        first.append("mine")
        self.assertEqual(len(smallest_unfit(PREMISES)), 3)
        self.assertIs(always_fit(PREMISES), False)
        self.assertIsNot(smallest_unfit(PREMISES), smallest_unfit(PREMISES))
        smallest_unfit((A,)).append(((0, True),))
        self.assertEqual(smallest_unfit((A,)), [])

    def test_asked_again_with_another_list_between(self):
        for sayings, other in zip(LISTS, LISTS[1:] + LISTS[:1]):
            first = smallest_unfit(sayings), always_fit(sayings)
            smallest_unfit(other), always_fit(other)
            self.assertEqual((smallest_unfit(sayings), always_fit(sayings)), first)


class Beyond(unittest.TestCase):
    def test_somewhat_beyond_the_bounds_nothing_is_refused(self):
        letters = tuple(("letter", name) for name in FIVE_NAMES + ("f",))
        sayings = letters + (("or", chain_of_not(44), B),)
        self.assertEqual(smallest_unfit(sayings), smallest_of(rows_of(sayings), 7))
        self.assertIs(always_fit(sayings), False)


if __name__ == "__main__":
    unittest.main()
