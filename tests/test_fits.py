"""Points 7 and 8: names and rows of a list, fit rows, fit parts, and what follows."""

import copy
import itertools
import unittest

from manyjudges.fits import fit_rows, fits, follows, names_of, row_of
from samples import (
    A, B, C, FIVE_NAMES, LISTS, MIXED_NAMES, PREMISES, all_parts_of, broad, chain_of_not, has_part, is_fit,
    is_row, names_among, no, rows_of, ways_of, what_follows,
)

ALWAYS = ("or", A, no(A))
NEVER = ("and", A, no(A))


def asked_parts(many):
    """All parts of a short list; of a long one the empty part and a share of the others."""
    parts = all_parts_of(many)
    return parts if many < 5 else parts[::many]


class Names(unittest.TestCase):
    def test_sorted_and_each_once(self):
        self.assertEqual(names_of((B, A)), ("a", "b"))
        self.assertEqual(names_of((C, ("and", B, C), no(A), A)), ("a", "b", "c"))
        self.assertEqual(names_of((A, A)), ("a",))

    def test_names_that_begin_one_another(self):
        for order in itertools.permutations(MIXED_NAMES):
            letters = tuple(("letter", name) for name in order)
            self.assertEqual(names_of(letters), ("a", "aa", "ab", "b", "letter"))

    def test_one_saying_with_five_names(self):
        self.assertEqual(names_of((broad(FIVE_NAMES[::-1] * 4),)), FIVE_NAMES)

    def test_every_list(self):
        for sayings in LISTS:
            self.assertEqual(names_of(sayings), names_among(sayings))
            self.assertIs(type(names_of(sayings)), tuple)


class Row(unittest.TestCase):
    def test_in_the_order_of_the_sayings(self):
        self.assertEqual(row_of(PREMISES, ()), (False, False, False))
        self.assertEqual(row_of(PREMISES, ("a",)), (True, False, False))
        self.assertEqual(row_of(PREMISES, ("b",)), (False, True, False))
        self.assertEqual(row_of(PREMISES, ("a", "b")), (True, True, True))

    def test_held_in_another_order_and_with_other_names(self):
        self.assertEqual(row_of(PREMISES, ("zzz", "b", "a")), (True, True, True))
        self.assertEqual(row_of(PREMISES, ("ab", "ba")), (False, False, False))

    def test_every_list_and_way_to_hold(self):
        for sayings in LISTS:
            for held, row in ways_of(sayings).items():
                self.assertEqual(row_of(sayings, held), row)
                self.assertTrue(is_row(row_of(sayings, held), len(sayings)))


class FitRows(unittest.TestCase):
    def test_sorted_with_false_ahead(self):
        self.assertEqual(fit_rows((A,)), [(False,), (True,)])
        self.assertEqual(fit_rows(PREMISES), [
            (False, False, False), (False, True, False), (True, False, False), (True, True, True),
        ])

    def test_each_once(self):
        self.assertEqual(fit_rows((A, ("or", A, ("and", B, no(B))))), [(False, False), (True, True)])
        self.assertEqual(fit_rows((ALWAYS,)), [(True,)])
        self.assertEqual(fit_rows((NEVER, ("if", B, B))), [(False, True)])

    def test_five_names_that_hold_freely(self):
        letters = tuple(("letter", name) for name in FIVE_NAMES)
        self.assertEqual(fit_rows(letters), list(itertools.product((False, True), repeat=5)))

    def test_every_list(self):
        for sayings in LISTS:
            told = fit_rows(sayings)
            self.assertIs(type(told), list)
            self.assertEqual(told, rows_of(sayings))
            for row in told:
                self.assertTrue(is_row(row, len(sayings)))


class Fits(unittest.TestCase):
    def check(self, sayings, part):
        """None just where no way to hold makes the part so, else such a way, sorted."""
        ways = ways_of(sayings)
        held = fits(sayings, part)
        if held is None:
            self.assertFalse(is_fit(ways.values(), part), (sayings, part))
        else:
            self.assertIs(type(held), tuple)
            self.assertIn(held, ways)
            self.assertTrue(has_part(ways[held], part), (sayings, part))

    def test_only_one_way(self):
        self.assertEqual(fits(PREMISES, ((2, True),)), ("a", "b"))
        self.assertEqual(fits(PREMISES, ((0, True), (2, False))), ("a",))
        self.assertEqual(fits(PREMISES, ((0, False), (1, False))), ())
        self.assertEqual(fits((chain_of_not(40),), ((0, True),)), ())
        self.assertEqual(fits((no(A), ("letter", "aa"), B), ((0, False), (1, True), (2, True))), ("a", "aa", "b"))

    def test_no_way(self):
        self.assertIsNone(fits(PREMISES, ((0, True), (1, True), (2, False))))
        self.assertIsNone(fits(PREMISES, ((0, False), (2, True))))
        self.assertIsNone(fits((ALWAYS,), ((0, False),)))
        self.assertIsNone(fits((NEVER,), ((0, True),)))
        self.assertIsNone(fits((A, A), ((0, True), (1, False))))

    def test_the_empty_part_is_always_fit(self):
        for sayings in LISTS:
            self.assertIsNotNone(fits(sayings, ()))
            self.check(sayings, ())

    def test_every_list(self):
        for sayings in LISTS:
            for part in asked_parts(len(sayings)):
                self.check(sayings, part)

    def test_whole_rows(self):
        for sayings in LISTS:
            for row in itertools.product((False, True), repeat=len(sayings)):
                self.check(sayings, tuple(enumerate(row)))


class Follows(unittest.TestCase):
    def test_true_false_and_open(self):
        self.assertIs(follows(PREMISES, ((0, True), (1, True)), 2), True)
        self.assertIs(follows(PREMISES, ((0, False),), 2), False)
        self.assertIsNone(follows(PREMISES, ((0, True),), 2))
        self.assertIs(follows(PREMISES, ((2, True),), 0), True)
        self.assertIs(follows(PREMISES, ((0, True), (2, False)), 1), False)
        self.assertIsNone(follows(PREMISES, ((2, False),), 1))

    def test_from_the_empty_part(self):
        self.assertIs(follows((B, ALWAYS), (), 1), True)
        self.assertIs(follows((B, NEVER), (), 1), False)
        self.assertIsNone(follows((B, NEVER), (), 0))

    def test_what_the_part_says_itself(self):
        for truth in (True, False):
            self.assertIs(follows(PREMISES, ((1, truth),), 1), truth)

    def test_every_list(self):
        seen = set()
        for sayings in LISTS:
            rows = rows_of(sayings)
            for part in [part for part in asked_parts(len(sayings)) if is_fit(rows, part)]:
                for number in range(len(sayings)):
                    told = follows(sayings, part, number)
                    self.assertIs(told, what_follows(rows, part, number), (sayings, part, number))
                    seen.add((told, part == ()))
        self.assertEqual(seen, {(truth, empty) for truth in (True, False, None) for empty in (True, False)})


class Point2(unittest.TestCase):
    def test_what_is_handed_in_stays(self):
        for sayings in LISTS:
            held, part = names_among(sayings), ((0, rows_of(sayings)[0][0]),)
            before = copy.deepcopy((sayings, held, part))
            names_of(sayings), row_of(sayings, held), fit_rows(sayings)
            fits(sayings, part), follows(sayings, part, len(sayings) - 1)
            self.assertEqual((sayings, held, part), before)

    def test_a_told_list_is_the_askers(self):
        for sayings in LISTS:
            told = fit_rows(sayings)
            told.reverse()
            told.append("mine")
            self.assertEqual(fit_rows(sayings), rows_of(sayings))
            self.assertIsNot(fit_rows(sayings), fit_rows(sayings))

    def test_asked_again_with_another_list_between(self):
        others = LISTS[1:] + LISTS[:1]
        for sayings, other in zip(LISTS, others):
            part = ((0, rows_of(sayings)[-1][0]),)

            def asked():
                told = [follows(sayings, part, number) for number in range(len(sayings))]
                return names_of(sayings), row_of(sayings, ("a",)), fit_rows(sayings), told

            first, fit = asked(), fits(sayings, part) is None
            names_of(other), row_of(other, ("a",)), fit_rows(other), fits(other, ()), follows(other, (), 0)
            self.assertEqual(asked(), first)
            self.assertEqual(fits(sayings, part) is None, fit)


class Beyond(unittest.TestCase):
    def test_somewhat_beyond_the_bounds_nothing_is_refused(self):
        letters = tuple(("letter", name) for name in FIVE_NAMES + ("f",))
        sayings = letters + (no(chain_of_not(44)), ("and", A, ("letter", "f")))
        self.assertEqual(names_of(sayings), FIVE_NAMES + ("f",))
        self.assertEqual(fit_rows(sayings), rows_of(sayings))
        self.assertEqual(fits(sayings, ((1, False), (2, False), (3, False), (4, False), (7, True))), ("a", "f"))
        self.assertIs(follows(sayings, ((7, True),), 5), True)


if __name__ == "__main__":
    unittest.main()
