"""The lists that the other tests ask of: that they reach the edges of point 7."""

import unittest

from samples import LISTS, names_among, pieces_of, rows_of


class Samples(unittest.TestCase):
    def test_each_list_keeps_to_the_bounds(self):
        for sayings in LISTS:
            self.assertIn(len(sayings), range(1, 7))
            self.assertIn(len(names_among(sayings)), range(1, 6))
            for saying in sayings:
                self.assertLessEqual(len(pieces_of(saying)), 40)

    def test_each_number_of_sayings_comes_with_each_number_of_names(self):
        reached = {(len(sayings), len(names_among(sayings))) for sayings in LISTS}
        self.assertEqual(reached, {(many, names) for many in range(1, 7) for names in range(1, 6)})

    def test_forty_pieces_come(self):
        longest = {len(pieces_of(saying)) for sayings in LISTS for saying in sayings}
        self.assertIn(40, longest)
        self.assertIn(1, longest)

    def test_few_and_many_rows_come(self):
        numbers = {len(rows_of(sayings)) for sayings in LISTS}
        self.assertIn(1, numbers)
        self.assertGreaterEqual(max(numbers), 20)


if __name__ == "__main__":
    unittest.main()
