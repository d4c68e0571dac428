"""Rows of whole numbers: ranks, sums, and numbers beside rows, by hand and at random."""

import unittest
from random import Random

from steamlinks.rows import multiples_to_nought, numbers_within, product_of_rows, rank_of, sum_of_rows
from tests.test_fits import rank


def some_rows(chance, many, width, most=2):
    """Rows that are not noughts alone."""
    rows = []
    while len(rows) < many:
        row = tuple(chance.randint(-most, most) for _ in range(width))
        if any(row):
            rows.append(row)
    return rows


class Rows(unittest.TestCase):
    def test_sums(self):
        self.assertEqual(product_of_rows((1, 2, 3), (4, -5, 6)), 12)
        self.assertEqual(list(sum_of_rows([(1, 2, 3), (0, 1, -1)], (2, -3))), [2, 1, 9])

    def test_rank(self):
        self.assertEqual([rank_of([]), rank_of([(0, 0)]), rank_of([(0, 2), (0, -3)]), rank_of([(0, 2), (1, 0), (1, 1)])], [0, 0, 1, 2])
        chance = Random(151)
        for _ in range(100):
            rows = [row + (0,) * 7 for row in some_rows(chance, chance.randint(1, 5), 3)]
            self.assertEqual(rank_of(rows), rank(rows))

    def test_numbers_by_hand(self):
        self.assertIsNone(numbers_within([], [(1, 0), (-1, 0)], []))
        self.assertIsNone(numbers_within([(1, 0)], [(1, 0)], []))
        self.assertIsNone(numbers_within([], [(1, 0)], [(-1, 0)]))
        # A product from 0 on may have to be 0.
        first, second = numbers_within([], [(1, 0)], [(0, 1), (0, -1)])
        self.assertTrue(first > 0 and second == 0)
        first, second = numbers_within([], [(1, 0)], [(1, 1), (-1, -1)])
        self.assertTrue(first > 0 and second == -first)
        self.assertIsNone(numbers_within([], [(1, 1)], [(1, 1), (-1, -1)]))

    def test_multiples_by_hand(self):
        self.assertIsNone(multiples_to_nought([], [(1, 0), (0, -1)]))
        self.assertEqual(multiples_to_nought([], [(2, 0), (-3, 0)]), ((), (3, 2)))
        self.assertEqual(multiples_to_nought([(0, 1)], [(0, -2)]), ((2,), (1,)))
        self.assertEqual(multiples_to_nought([(0, 1)], [(0, 2), (1, 0)]), ((-2,), (1, 0)))

    def test_one_or_the_other(self):
        chance = Random(152)
        met = set()
        for _ in range(400):
            width = chance.randint(1, 4)
            evens, stricts = some_rows(chance, chance.randint(0, 3), width), some_rows(chance, chance.randint(1, 5), width)
            weaks = some_rows(chance, chance.choice((0, 0, 1, 2)), width)
            numbers, told = numbers_within(evens, stricts, weaks), multiples_to_nought(evens, stricts)
            message = (evens, stricts, weaks)
            if numbers is not None:
                self.assertTrue(all([product_of_rows(row, numbers) == 0 for row in evens]), message)
                self.assertTrue(all([product_of_rows(row, numbers) > 0 for row in stricts]), message)
                self.assertTrue(all([product_of_rows(row, numbers) >= 0 for row in weaks]), message)
                self.assertIsNone(told, message)
            if told is not None:
                self.assertTrue(min(told[1]) >= 0 < max(told[1]), message)
                self.assertEqual((len(told[0]), len(told[1])), (len(evens), len(stricts)))
                self.assertFalse(any(sum_of_rows(evens + stricts, told[0] + told[1])), message)
            if not weaks:
                self.assertIs(numbers is None, told is not None, message)
            elif numbers is None and told is None:
                # Then it is the weak rows that bar it: with them among the strict ones there are multiples that do.
                self.assertIsNotNone(multiples_to_nought(evens, stricts + weaks), message)
            met.add((numbers is None, told is None, bool(weaks)))
        self.assertEqual(len(met), 5)


if __name__ == "__main__":
    unittest.main()
