"""Points 19 and 20: sayings, and lists with judges, written."""

import copy
import random
import unittest

from manyjudges.shows import shown, written
from samples import (
    A, B, C, FIVE_NAMES, LISTS, NEAR_WORDS, PAIRED, PREMISES, THREE, all_up_to, and_of, broad, chain_of_not, leaning,
    list_in, no, rows_of, saying_in, some_judges, some_saying, text_for, text_of,
)


class Shown(unittest.TestCase):
    def check(self, saying):
        text = shown(saying)
        self.assertIs(type(text), str)
        self.assertEqual(text, text_of(saying))
        self.assertEqual(saying_in(text), saying)

    def test_each_kind(self):
        for saying, text in (
            (A, "a"),
            (("letter", "letter"), "letter"),
            (no(A), "not a"),
            (no(no(A)), "not not a"),
            (("and", A, B), "(a and b)"),
            (("or", A, B), "(a or b)"),
            (("if", A, B), "(if a then b)"),
            (no(("or", A, B)), "not (a or b)"),
            (("or", no(A), B), "(not a or b)"),
            (("and", A, no(B)), "(a and not b)"),
            (("if", ("if", A, B), ("and", B, ("or", C, A))), "(if (if a then b) then (b and (c or a)))"),
            (("or", ("and", A, B), ("and", B, A)), "((a and b) or (b and a))"),
        ):
            self.assertEqual(shown(saying), text)
            self.check(saying)

    def test_all_small_ones(self):
        texts = [shown(saying) for saying in all_up_to(5, ("a", "nota"))]
        self.assertEqual(texts, [text_of(saying) for saying in all_up_to(5, ("a", "nota"))])
        self.assertEqual(len(texts), len(set(texts)))

    def test_each_number_of_pieces(self):
        draw = random.Random(60)
        for pieces in range(1, 41):
            for _ in range(5):
                self.check(some_saying(draw, pieces, NEAR_WORDS))

    def test_deep_and_broad_ones(self):
        self.check(chain_of_not(40))
        self.check(broad(NEAR_WORDS[:20]))
        for kind in PAIRED:
            self.check(leaning(kind, 20, True))
            self.check(leaning(kind, 20, False))

    def test_somewhat_beyond_the_bounds_nothing_is_refused(self):
        for saying in (chain_of_not(41), chain_of_not(60), leaning("if", 25, True), and_of(NEAR_WORDS[:30])):
            self.assertEqual(shown(saying), text_of(saying))


class Written(unittest.TestCase):
    def check(self, sayings, judges):
        text = written(sayings, judges)
        self.assertIs(type(text), str)
        self.assertEqual(text, text_for(sayings, judges))
        self.assertEqual(list_in(text), (sayings, judges))

    def test_one_of_each(self):
        self.assertEqual(written((A,), ((True,),)), "say a\njudge y")
        self.assertEqual(written((no(A),), ((False,),)), "say not a\njudge n")

    def test_several(self):
        self.assertEqual(written(PREMISES, THREE), "\n".join((
            "say a", "say b", "say (a and b)", "judge yyy", "judge ynn", "judge nyn",
        )))

    def test_every_list_with_each_number_of_judges(self):
        draw = random.Random(61)
        for number, sayings in enumerate(LISTS):
            rows = rows_of(sayings)
            for many in (1, 2, 3, number % 21 + 1, 20, 21):
                self.check(sayings, some_judges(draw, rows, many))

    def test_somewhat_beyond_the_bounds_nothing_is_refused(self):
        letters = FIVE_NAMES + ("f",)
        sayings = tuple(("letter", name) for name in letters) + (chain_of_not(45),)
        judges = some_judges(random.Random(62), rows_of(sayings), 24)
        self.assertEqual(written(sayings, judges), text_for(sayings, judges))


class Point2(unittest.TestCase):
    def test_what_is_handed_in_stays(self):
        sayings, judges = copy.deepcopy((LISTS[10], tuple(rows_of(LISTS[10]))))
        shown(sayings[3]), written(sayings, judges)
        self.assertEqual((sayings, judges), (LISTS[10], tuple(rows_of(LISTS[10]))))

    def test_asked_again_with_another_between(self):
        for sayings, other in zip(LISTS, LISTS[1:]):
            judges = tuple(rows_of(sayings)[:3])
            first = [shown(saying) for saying in sayings], written(sayings, judges)
            [shown(saying) for saying in other], written(other, tuple(rows_of(other)[:2]))
            self.assertEqual(([shown(saying) for saying in sayings], written(sayings, judges)), first)


if __name__ == "__main__":
    unittest.main()
