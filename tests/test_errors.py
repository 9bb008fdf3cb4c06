"""The refusals: where they stand, and their fields."""

import unittest

from manyjudges.errors import BadRow, Barred, Even, JudgeError, NoText, OutOfBounds

FIVE = (NoText, OutOfBounds, BadRow, Even, Barred)


def made(kind):
    if kind is BadRow:
        return BadRow(3)
    if kind is Barred:
        return Barred(((0, True), (2, False)))
    return kind("some words")


class Errors(unittest.TestCase):
    def test_judge_error_is_a_value_error(self):
        self.assertTrue(issubclass(JudgeError, ValueError))
        with self.assertRaises(ValueError):
            raise JudgeError("some words")

    def test_each_is_taken_by_judge_error_and_value_error(self):
        for kind in FIVE:
            for wider in (kind, JudgeError, ValueError):
                with self.subTest(kind=kind, wider=wider), self.assertRaises(wider):
                    raise made(kind)

    def test_none_stands_under_another(self):
        for kind in FIVE:
            for other in FIVE:
                self.assertEqual(issubclass(kind, other), kind is other)
            self.assertFalse(issubclass(JudgeError, kind))

    def test_without_words(self):
        for kind in (JudgeError, NoText, OutOfBounds, Even):
            with self.assertRaises(kind):
                raise kind()

    def test_bad_row_keeps_its_number(self):
        for number in (0, 1, 20, 59):
            with self.assertRaises(BadRow) as taken:
                raise BadRow(number)
            self.assertEqual(taken.exception.number, number)
            self.assertIs(type(taken.exception.number), int)
        self.assertEqual(BadRow(number=7).number, 7)

    def test_barred_keeps_its_part(self):
        for part in ((), ((0, True),), ((0, True), (2, False))):
            with self.assertRaises(Barred) as taken:
                raise Barred(part)
            self.assertEqual(taken.exception.part, part)
        self.assertEqual(Barred(part=()).part, ())

    def test_fields_are_each_errors_own(self):
        first, second = BadRow(1), BadRow(2)
        self.assertEqual((first.number, second.number), (1, 2))
        one, other = Barred(((0, True),)), Barred(())
        self.assertEqual((one.part, other.part), (((0, True),), ()))


if __name__ == "__main__":
    unittest.main()
