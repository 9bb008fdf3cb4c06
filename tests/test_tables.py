"""Point 6: the table of a saying, and the names held for a bit."""

import itertools
import unittest

from manyjudges.sayings import is_so
from manyjudges.tables import held_by, table
from samples import A, B, FIVE_NAMES, PAIRED, all_up_to, bits_of, broad, chain_of_not, leaning, no

EACH_LENGTH = tuple(FIVE_NAMES[:many] for many in range(1, 6))


def is_plain_number(value):
    return type(value) is int


class HeldBy(unittest.TestCase):
    def test_three_names(self):
        told = [held_by(number, ("p", "q", "r")) for number in range(8)]
        self.assertEqual(told, [
            (), ("p",), ("q",), ("p", "q"), ("r",), ("p", "r"), ("q", "r"), ("p", "q", "r"),
        ])

    def test_one_name(self):
        self.assertEqual(held_by(0, ("abcdef",)), ())
        self.assertEqual(held_by(1, ("abcdef",)), ("abcdef",))

    def test_each_number_for_one_to_five_names(self):
        for names in EACH_LENGTH:
            for number in range(2 ** len(names)):
                held = held_by(number, names)
                self.assertIs(type(held), tuple)
                self.assertEqual(held, tuple(name for j, name in enumerate(names) if number >> j & 1))

    def test_each_way_to_hold_comes_once(self):
        for names in EACH_LENGTH:
            told = [held_by(number, names) for number in range(2 ** len(names))]
            ways = [way for many in range(len(names) + 1) for way in itertools.combinations(names, many)]
            self.assertEqual(sorted(told), sorted(ways))

    def test_names_that_begin_one_another(self):
        self.assertEqual(held_by(5, ("a", "aa", "ab")), ("a", "ab"))


class Table(unittest.TestCase):
    def check_bits(self, saying, names):
        bits = table(saying, names)
        self.assertTrue(is_plain_number(bits))
        ways = 2 ** len(names)
        for k in range(ways):
            self.assertEqual(bits >> k & 1 == 1, is_so(saying, held_by(k, names)))
        self.assertEqual(bits >> ways, 0)
        self.assertEqual(bits, bits_of(saying, names))

    def test_written_tables(self):
        self.assertEqual(table(A, ("a",)), 0b10)
        self.assertEqual(table(A, ("a", "b")), 0b1010)
        self.assertEqual(table(B, ("a", "b")), 0b1100)
        self.assertEqual(table(no(A), ("a", "b")), 0b0101)
        self.assertEqual(table(("and", A, B), ("a", "b")), 0b1000)
        self.assertEqual(table(("or", A, B), ("a", "b")), 0b1110)
        self.assertEqual(table(("if", A, B), ("a", "b")), 0b1101)
        self.assertEqual(table(("if", B, A), ("a", "b")), 0b1011)

    def test_every_small_saying_for_one_to_five_names(self):
        for names in EACH_LENGTH:
            for saying in all_up_to(4, names[:2] + names[4:]):
                self.check_bits(saying, names)

    def test_each_letter_for_one_to_five_names(self):
        for names in EACH_LENGTH:
            for name in names:
                self.check_bits(("letter", name), names)

    def test_names_that_the_saying_lacks(self):
        self.assertEqual(table(B, ("a", "b", "c")), 0b11001100)
        self.assertEqual(table(("letter", "c"), ("a", "b", "c")), 0b11110000)
        self.assertEqual(table(A, FIVE_NAMES), int("10" * 16, 2))
        self.assertEqual(table(("letter", "e"), FIVE_NAMES), 0xFFFF0000)

    def test_names_that_begin_one_another(self):
        names = ("a", "aa", "ab", "abc", "b")
        self.check_bits(("if", ("letter", "ab"), ("or", ("letter", "a"), ("letter", "abc"))), names)

    def test_never_and_always(self):
        for names in EACH_LENGTH:
            never, always = table(("and", A, no(A)), names), table(("or", A, no(A)), names)
            self.assertEqual(never, 0)
            self.assertEqual(always, 2 ** 2 ** len(names) - 1)
            self.assertTrue(is_plain_number(never))
            self.assertTrue(is_plain_number(always))

    def test_one_is_no_truth(self):
        self.assertEqual(table(no(A), ("a",)), 1)
        self.assertTrue(is_plain_number(table(no(A), ("a",))))
        neither = ("and", no(A), no(B))
        self.assertEqual(table(neither, ("a", "b")), 1)
        self.assertTrue(is_plain_number(table(neither, ("a", "b"))))

    def test_forty_pieces(self):
        self.assertEqual(table(chain_of_not(40), ("a",)), 1)
        self.check_bits(chain_of_not(40), FIVE_NAMES)
        self.check_bits(no(broad(FIVE_NAMES * 4)), FIVE_NAMES)
        for kind in PAIRED:
            self.check_bits(no(leaning(kind, 20, True)), FIVE_NAMES)
            self.check_bits(no(leaning(kind, 20, False)), FIVE_NAMES)

    def test_asked_again_it_tells_the_same(self):
        saying = ("or", A, no(B))
        first = table(saying, ("a", "b"))
        table(saying, ("a", "b", "c"))
        table(no(saying), ("a", "b"))
        self.assertEqual(table(saying, ("a", "b")), first)


if __name__ == "__main__":
    unittest.main()
