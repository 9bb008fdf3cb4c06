"""Point 21: sayings and judges seated, or refused."""

import copy
import itertools
import random
import unittest

from manyjudges.errors import BadRow, Even, OutOfBounds
from manyjudges.seats import seated
from samples import (
    A, B, C, FIVE_NAMES, LISTS, MIXED_NAMES, PREMISES, THREE, and_of, asked, broad, chain_of_not, is_pair, leaning,
    names_among, no, pieces_of, refusal_of, rows_of, some_judges, some_list, some_saying,
)

OUT = (OutOfBounds, None)
EVEN = (Even, None)
SIX_NAMES = FIVE_NAMES + ("f",)
MANY_NAMES = tuple(one + other for one in "bcdefgh" for other in "bcdefgh")
YES, BOTH_NO = THREE[0], (False, False, False)

# Each is a list that is refused for itself, with judges of right rows where there are such.
LISTS_OUT = (
    (),
    (A,) * 7,
    tuple(("letter", name) for name in SIX_NAMES),
    (and_of(SIX_NAMES),),
    (A, and_of(SIX_NAMES[1:])),
    (chain_of_not(41),),
    (A, B, leaning("or", 21, True)),
)

# Each is no row of truths for three sayings.
NO_ROWS = (
    None, True, False, 0, 1, 3, 10 ** 20 - 1, "", "yyy", "nnn", "True", (), [],
    [True, True, True], [False, False, False], [], [1, 1, 1], list("yyy"),
    (True,), (True, True), (False, False), (True,) * 4, (False,) * 4, (True,) * 6, (False,) * 60,
    (1, 1, 1), (0, 0, 0), (1, True, True), (True, 1, True), (True, True, 1), (0, False, False), (False, False, 0),
    (False, 0, False), (None, None, None), (True, True, None), (None, False, False), ("y", "y", "y"), ("n", "n", "n"),
    (True, True, "y"), ("", "", ""), (True, True, 2), (2, 2, 2), ((True,), (True,), (True,)), (True, True, (True,)),
    ((True, True, True),), [(True, True, True)], [[True, True, True]], ([True, True, True],),
    (True, True, [True]), ((), (), ()), ([], [], []), (True, True, ()),
)
# Rows of truths that no held letters give.
UNFIT = ((True, True, False), (True, False, True), (False, True, True), (False, False, True))


class Told(unittest.TestCase):
    def check_told(self, sayings, judges):
        self.assertEqual(seated(sayings, judges), (sayings, judges))
        self.assertTrue(is_pair(seated(sayings, judges)))

    def test_one_of_each(self):
        self.check_told((A,), ((True,),))
        self.check_told((no(A),), ((False,),))

    def test_three(self):
        self.check_told(PREMISES, THREE)
        self.check_told(PREMISES, (BOTH_NO,))

    def test_every_list_with_each_odd_number_of_judges(self):
        draw = random.Random(80)
        for sayings in LISTS:
            for many in range(1, 22, 2):
                self.check_told(sayings, some_judges(draw, rows_of(sayings), many))

    def test_each_fit_row(self):
        for sayings in LISTS:
            for row in rows_of(sayings):
                self.check_told(sayings, (row,))

    def test_all_bounds_at_once(self):
        draw = random.Random(81)
        sayings = tuple(no(broad(tuple(draw.choices(FIVE_NAMES, k=15)) + FIVE_NAMES)) for _ in range(6))
        self.assertEqual({len(pieces_of(saying)) for saying in sayings}, {40})
        self.assertEqual(len(names_among(sayings)), 5)
        self.check_told(sayings, some_judges(draw, rows_of(sayings), 21))


class Bounds(unittest.TestCase):
    def check(self, sayings, judges, refusal):
        self.assertEqual(asked(seated, sayings, judges)[1], refusal)

    def test_sayings(self):
        for many in range(51):
            row = (True,) * many
            self.check((A,) * many, (row,), None if 1 <= many <= 6 else OUT)
            self.check((A,) * many, (row, row, row), None if 1 <= many <= 6 else OUT)

    def test_judges(self):
        for many in range(61):
            refusal = OUT if many in (0, *range(22, 61)) else EVEN if many % 2 == 0 else None
            self.check(PREMISES, (YES,) * many, refusal)
            self.check((A,), ((False,),) * many, refusal)

    def test_names_of_one_saying(self):
        for many in range(1, 21):
            self.check((and_of(MANY_NAMES[:many]),), ((True,),), None if many <= 5 else OUT)

    def test_names_of_several_sayings(self):
        for many in range(1, 7):
            sayings = tuple(("letter", name) for name in SIX_NAMES[:many])
            self.check(sayings, ((True,) * many,), None if many <= 5 else OUT)
        one, other = and_of(("a", "b", "c")), and_of(("d", "e"))
        self.check((one, other), ((True, True),), None)
        self.check((one, and_of(("c", "d", "e"))), ((True, True),), None)
        self.check((one, and_of(("d", "e", "f"))), ((True, True),), OUT)
        self.check((one, other, one, other, ("letter", "f")), ((True,) * 5,), OUT)
        self.check((and_of(FIVE_NAMES),) * 6, ((True,) * 6,), None)

    def test_very_many_names(self):
        # Soon told only if the ways to hold them are not tried.
        sayings = tuple(broad(MANY_NAMES[number:number + 40]) for number in range(6))
        self.assertGreater(len(names_among(sayings)), 40)
        for judges in (((True,) * 6,), ((True,) * 6,) * 2, (None,), ()):
            self.check(sayings, judges, OUT)

    def test_pieces(self):
        for pieces in (1, 2, 39, 40, 41, 42, 80, 119, 120):
            refusal = None if pieces <= 40 else OUT
            chain = chain_of_not(pieces)
            for place in range(6):
                sayings = (A,) * place + (chain,) + (A,) * (5 - place)
                self.check(sayings, (rows_of(sayings)[0],), refusal)
            draw = random.Random(pieces)
            for _ in range(20):
                saying = some_saying(draw, pieces, ("a", "b"))
                self.check((saying, A), (rows_of((saying, A))[0],), refusal)

    def test_pieces_are_counted_for_each_saying_by_itself(self):
        sayings = (chain_of_not(40),) * 6
        self.check(sayings, (rows_of(sayings)[0],), None)

    def test_deep_and_broad_sayings(self):
        for saying in (leaning("and", 60, True), leaning("or", 60, False), leaning("if", 60, True), chain_of_not(120),
                       broad(("a", "b") * 30), broad(MANY_NAMES[:49])):
            self.check((saying,), ((True,),), OUT)
            self.check((saying,) * 50, ((True,) * 50,) * 60, OUT)


class Rows(unittest.TestCase):
    def check_bad(self, sayings, judges, number):
        with self.assertRaises(BadRow) as taken:
            seated(sayings, judges)
        self.assertIs(type(taken.exception), BadRow)
        self.assertIs(type(taken.exception.number), int)
        self.assertEqual(taken.exception.number, number, judges)

    def test_each_wrong_row_alone(self):
        for row in NO_ROWS + UNFIT:
            self.check_bad(PREMISES, (row,), 0)

    def test_each_wrong_row_at_each_place(self):
        for many in (3, 21):
            for row in NO_ROWS + UNFIT:
                for place in range(many):
                    self.check_bad(PREMISES, THREE[:1] * place + (row,) + THREE[1:2] * (many - 1 - place), place)

    def test_the_first_of_several(self):
        wrong = NO_ROWS + UNFIT
        for one, other in itertools.product(wrong, repeat=2):
            self.check_bad(PREMISES, (one, other, YES), 0)
            self.check_bad(PREMISES, (YES, one, other), 1)
            self.check_bad(PREMISES, (YES, YES, one, YES, other), 2)

    def test_one_saying(self):
        always = ("or", A, no(A))
        for row in (True, False, 1, 0, None, "y", "n", (), [], [True], (1,), (0,), (None,), ("y",), (True, True),
                    (False,), ((True,),), [False], "True"):
            self.check_bad((always,), (row,), 0)
        self.assertEqual(asked(seated, (always,), ((True,),))[1], None)
        self.assertEqual(asked(seated, (A,), ((False,),))[1], None)

    def test_no_truth_is_a_number_and_no_number_a_truth(self):
        for sayings in LISTS:
            for row in rows_of(sayings)[:3]:
                self.check_bad(sayings, (row, tuple(int(truth) for truth in row), row), 1)
                for place in range(len(row)):
                    turned = row[:place] + (int(row[place]),) + row[place + 1:]
                    self.check_bad(sayings, (turned,), 0)

    def test_all_rows_of_truths(self):
        fit, unfit = 0, 0
        for sayings in LISTS:
            rows = rows_of(sayings)
            for row in itertools.product((False, True), repeat=len(sayings)):
                if row in rows:
                    self.assertEqual(asked(seated, sayings, (row,)), ((sayings, (row,)), None))
                    fit = fit + 1
                else:
                    self.check_bad(sayings, (row,), 0)
                    self.check_bad(sayings, (rows[0], rows[-1], row), 2)
                    unfit = unfit + 1
        self.assertGreater(min(fit, unfit), 200)

    def test_a_row_one_too_long_or_too_short(self):
        for sayings in LISTS:
            row = rows_of(sayings)[0]
            for wrong in (row[:-1], row[1:], row + (True,), row + (False,), (True,) + row, (False,) + row, row + row):
                self.check_bad(sayings, (row, row, wrong), 2)


class Several(unittest.TestCase):
    """More than one ground to refuse at once."""

    def check(self, sayings, judges, refusal):
        self.assertEqual(asked(seated, sayings, judges), (None, refusal))

    def test_each_alone(self):
        for sayings in LISTS_OUT:
            row = rows_of(sayings)[0] if sayings else ()
            self.check(sayings, (row,), OUT)
        self.check(PREMISES, (), OUT)
        self.check(PREMISES, (YES,) * 23, OUT)
        self.check(PREMISES, (UNFIT[0],), (BadRow, 0))
        self.check(PREMISES, (YES, YES), EVEN)

    def test_out_of_bounds_ahead_of_bad_row(self):
        for sayings in LISTS_OUT:
            for row in NO_ROWS + UNFIT:
                self.check(sayings, (row,), OUT)
        for row in NO_ROWS + UNFIT:
            self.check(PREMISES, (row,) * 23, OUT)
            self.check(PREMISES, (row,) + (YES,) * 22, OUT)
            self.check(PREMISES, (YES,) * 22 + (row,), OUT)

    def test_out_of_bounds_ahead_of_even(self):
        for sayings in LISTS_OUT:
            row = rows_of(sayings)[0] if sayings else ()
            self.check(sayings, (row, row), OUT)
            self.check(sayings, (row,) * 20, OUT)
        for many in (0, 22, 24, 60):
            self.check(PREMISES, (YES,) * many, OUT)

    def test_bad_row_ahead_of_even(self):
        for row in NO_ROWS + UNFIT:
            self.check(PREMISES, (row, YES), (BadRow, 0))
            self.check(PREMISES, (YES, row), (BadRow, 1))
            self.check(PREMISES, (row, row), (BadRow, 0))
            self.check(PREMISES, (YES,) * 19 + (row,), (BadRow, 19))

    def test_all_three(self):
        for row in NO_ROWS + UNFIT:
            self.check(PREMISES, (row,) * 22, OUT)
            for sayings in LISTS_OUT:
                self.check(sayings, (row, row), OUT)

    def test_several_bounds_at_once(self):
        for sayings in LISTS_OUT:
            self.check(sayings, (), OUT)
            self.check(sayings, (YES,) * 22, OUT)
            self.check(sayings, (None,) * 60, OUT)
        self.check((chain_of_not(120),) * 50, ("yyy",) * 60, OUT)
        self.check((chain_of_not(41), and_of(SIX_NAMES)), ((True, True),), OUT)

    def test_drawn(self):
        draw = random.Random(82)
        seen = {}
        for _ in range(3000):
            sayings = some_list(draw, draw.randrange(1, 7), (MIXED_NAMES + ("f",))[:draw.randrange(1, 7)], 20)
            if draw.randrange(8) == 0:
                sayings = sayings + (chain_of_not(draw.choice((39, 40, 41, 42))),)
            judges = list(some_judges(draw, rows_of(sayings), draw.choice((0, 1, 2, 3, 4, 5, 20, 21, 22, 23))))
            for _ in range(draw.choice((0, 0, 0, 1, 2)) if judges else 0):
                judges[draw.randrange(len(judges))] = draw.choice(NO_ROWS + UNFIT)
            told, refusal = asked(seated, sayings, tuple(judges))
            self.assertEqual(refusal, refusal_of(sayings, tuple(judges)))
            self.assertEqual(told, (sayings, tuple(judges)) if refusal is None else None)
            found = None if refusal is None else refusal[0]
            seen[found] = seen.get(found, 0) + 1
        self.assertEqual(set(seen), {None, OutOfBounds, BadRow, Even})
        self.assertGreater(min(seen.values()), 100, seen)


class Point2(unittest.TestCase):
    def test_what_is_handed_in_stays(self):
        for row in NO_ROWS + UNFIT + THREE:
            handed = (PREMISES, (YES, row, YES))
            before = copy.deepcopy(handed)
            asked(seated, *handed)
            self.assertEqual(handed, before)
            self.assertEqual([type(value) for value in handed[1]], [type(value) for value in before[1]])

    def test_asked_again_with_another_between(self):
        good = ((PREMISES, THREE), ((A, no(A)), ((True, False),)))
        wrong = (
            (((), ()), OUT), (((A,) * 7, ((True,) * 7,)), OUT), ((PREMISES, THREE[:2]), EVEN),
            ((PREMISES, (YES, None, YES)), (BadRow, 1)), ((PREMISES, (YES, YES, [True, True, True])), (BadRow, 2)),
            ((PREMISES, (UNFIT[0], YES)), (BadRow, 0)), (((A, B, C), ((1, 1, 1),)), (BadRow, 0)),
        )
        for handed, refusal in wrong:
            for between in good:
                self.assertEqual(asked(seated, *handed), (None, refusal))
                self.assertEqual(asked(seated, *between), (between, None))
                self.assertEqual(asked(seated, *handed), (None, refusal))


if __name__ == "__main__":
    unittest.main()
