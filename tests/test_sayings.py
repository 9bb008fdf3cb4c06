"""Points 4 and 5: pieces, names, and where a saying is so."""

import itertools
import unittest

from manyjudges.sayings import is_so, names_in, pieces_in
from samples import A, B, C, FIVE_NAMES, PAIRED, all_of, all_up_to, bits_of, broad, chain_of_not, leaning, no

MANY_NAMES = tuple(f"n{one}{other}" for one in "abcdefgh" for other in "abcdefgh")[:60]
NESTED = ("if", ("and", A, no(B)), ("or", no(no(C)), ("if", A, A)))


class Pieces(unittest.TestCase):
    def tells(self, saying, pieces):
        self.assertEqual(pieces_in(saying), pieces)
        self.assertIs(type(pieces_in(saying)), int)

    def test_a_letter(self):
        self.tells(A, 1)
        self.tells(("letter", "abcdef"), 1)

    def test_not(self):
        self.tells(no(A), 2)
        self.tells(no(no(A)), 3)

    def test_two_sayings(self):
        for kind in PAIRED:
            self.tells((kind, A, B), 3)
            self.tells((kind, A, A), 3)
            self.tells((kind, no(A), B), 4)
            self.tells((kind, A, no(B)), 4)

    def test_nested(self):
        self.tells(NESTED, 12)

    def test_every_small_saying(self):
        for pieces in range(1, 6):
            for saying in all_of(pieces, ("a", "b")):
                self.tells(saying, pieces)

    def test_forty(self):
        self.tells(chain_of_not(40), 40)
        self.tells(no(broad(FIVE_NAMES * 4)), 40)
        for kind in PAIRED:
            self.tells(no(leaning(kind, 20, True)), 40)
            self.tells(no(leaning(kind, 20, False)), 40)

    def test_a_hundred_and_twenty(self):
        self.tells(chain_of_not(120), 120)
        self.tells(no(broad(MANY_NAMES)), 120)
        self.tells(no(leaning("and", 60, True)), 120)
        self.tells(no(leaning("or", 60, False)), 120)

    def test_a_name_like_the_word_letter(self):
        self.tells(("letter", "letter"), 1)
        self.tells(("and", ("letter", "letter"), no(("letter", "letter"))), 4)


class Names(unittest.TestCase):
    def tells(self, saying, names):
        self.assertEqual(names_in(saying), names)
        self.assertIs(type(names_in(saying)), tuple)

    def test_a_letter(self):
        self.tells(A, ("a",))
        self.tells(("letter", "abcdef"), ("abcdef",))

    def test_not(self):
        self.tells(no(B), ("b",))

    def test_two_sayings_sorted(self):
        for kind in PAIRED:
            self.tells((kind, A, B), ("a", "b"))
            self.tells((kind, B, A), ("a", "b"))

    def test_each_once(self):
        for kind in PAIRED:
            self.tells((kind, A, A), ("a",))
            self.tells((kind, (kind, B, A), (kind, A, B)), ("a", "b"))

    def test_nested(self):
        self.tells(NESTED, ("a", "b", "c"))

    def test_beginnings_of_one_another(self):
        names = ("a", "aa", "ab", "abc", "b")
        for order in itertools.permutations(names):
            self.tells(broad(order), names)

    def test_a_name_like_the_word_letter(self):
        self.tells(("or", ("letter", "letter"), ("letter", "iff")), ("iff", "letter"))

    def test_forty_pieces(self):
        self.tells(chain_of_not(40), ("a",))
        self.tells(no(broad(FIVE_NAMES[::-1] * 4)), FIVE_NAMES)
        self.tells(no(leaning("if", 20, True)), ("a", "b"))
        self.tells(no(leaning("if", 20, False)), ("a", "b"))

    def test_a_hundred_and_twenty_pieces_and_many_names(self):
        self.tells(chain_of_not(120), ("a",))
        self.tells(no(broad(MANY_NAMES[::-1])), MANY_NAMES)
        self.tells(no(leaning("or", 60, True)), ("a", "b"))


class IsSo(unittest.TestCase):
    def tells(self, saying, held, truth):
        with self.subTest(saying=saying, held=held):
            self.assertIs(is_so(saying, held), truth)

    def test_a_letter(self):
        self.tells(A, ("a",), True)
        self.tells(A, (), False)
        self.tells(A, ("b",), False)

    def test_not(self):
        self.tells(no(A), ("a",), False)
        self.tells(no(A), (), True)
        self.tells(no(no(A)), ("a",), True)
        self.tells(no(no(A)), (), False)

    def test_and_or_if(self):
        ways = ((), ("a",), ("b",), ("a", "b"))
        truths = {
            "and": (False, False, False, True),
            "or": (False, True, True, True),
            "if": (True, False, True, True),
        }
        for kind in PAIRED:
            for held, truth in zip(ways, truths[kind]):
                self.tells((kind, A, B), held, truth)

    def test_one_letter_twice(self):
        for held, truth in (((), False), (("a",), True)):
            self.tells(("and", A, A), held, truth)
            self.tells(("or", A, A), held, truth)
            self.tells(("if", A, A), held, True)
            self.tells(("and", A, no(A)), held, False)
            self.tells(("or", A, no(A)), held, True)
            self.tells(("if", A, no(A)), held, not truth)

    def test_held_in_any_order_with_other_names(self):
        for held in itertools.permutations(("a", "c", "x", "zzz")):
            self.tells(("and", A, C), held, True)
            self.tells(("or", B, no(A)), held, False)
            self.tells(("if", C, B), held, False)

    def test_names_that_begin_or_hold_one_another(self):
        self.tells(A, ("ab", "ba", "aa"), False)
        self.tells(("letter", "ab"), ("a", "b", "abc"), False)
        self.tells(("letter", "ab"), ("a", "ab"), True)
        self.tells(("letter", "letter"), ("a",), False)
        self.tells(("letter", "letter"), ("letter",), True)

    def test_no_held_letter_at_all(self):
        self.tells(NESTED, (), True)
        self.tells(("and", no(A), no(B)), (), True)
        self.tells(("or", A, ("and", B, C)), (), False)

    def test_nested(self):
        self.tells(("if", ("and", A, no(B)), C), ("a",), False)
        self.tells(("if", ("and", A, no(B)), C), ("a", "b"), True)
        self.tells(("if", ("and", A, no(B)), C), ("a", "c"), True)

    def test_every_small_saying(self):
        names = ("a", "b")
        ways = ((), ("a",), ("b",), ("a", "b"))
        for saying in all_up_to(5, names):
            bits = bits_of(saying, names)
            for k, held in enumerate(ways):
                self.tells(saying, held, bool(bits >> k & 1))

    def test_forty_pieces(self):
        self.tells(chain_of_not(40), ("a",), False)
        self.tells(chain_of_not(40), (), True)
        self.tells(chain_of_not(39), ("a",), True)
        for right in (True, False):
            self.tells(no(leaning("and", 20, right)), ("a", "b"), False)
            self.tells(no(leaning("and", 20, right)), ("b",), True)
            self.tells(no(leaning("or", 20, right)), (), True)
            self.tells(no(leaning("or", 20, right)), ("a",), False)
        self.tells(leaning("if", 20, True), ("b",), False)
        self.tells(leaning("if", 20, True), (), True)
        # Without b each if is a not of what stands ahead of it, nineteen times.
        self.tells(leaning("if", 20, False), ("a",), False)
        self.tells(leaning("if", 20, False), (), True)

    def test_asked_again_it_tells_the_same(self):
        for held in ((), ("a",), ("c", "a"), ("a",), ()):
            self.assertIs(is_so(NESTED, held), is_so(NESTED, held))
            self.assertIs(is_so(A, held), "a" in held)


if __name__ == "__main__":
    unittest.main()
