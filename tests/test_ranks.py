"""Ranks, kernel rows, independent columns."""

import itertools
import math
import unittest
from fractions import Fraction

from makers import WRONG_KINDS, all_tables, error_of, plain_parts, some_tables
from splitnumbers.ranks import is_independent, kernel_row, rank_of
from splitnumbers.tables import Table


def plain_rank(rows):
    left = [[Fraction(a) for a in row] for row in rows]
    rank = 0
    for place in range(len(left[0]) if left else 0):
        pivot = next((row for row in left[rank:] if row[place]), None)
        if pivot is None:
            continue
        left.remove(pivot)
        left.insert(rank, pivot)
        for k in range(rank + 1, len(left)):
            factor = left[k][place] / pivot[place]
            left[k] = [a - factor * b for a, b in zip(left[k], pivot)]
        rank += 1
    return rank


class RanksTest(unittest.TestCase):
    def test_rank_of(self):
        self.assertEqual(rank_of(()), 0)
        self.assertEqual(rank_of(((0, 0), (0, 0))), 0)
        self.assertEqual(rank_of(((0, 2), (0, 3), (1, 1))), 2)
        self.assertEqual(rank_of(((1, 2, 3), (2, 4, 6), (1, 1, 1))), 2)
        self.assertEqual(rank_of(((10 ** 30, 1), (10 ** 30, 2))), 2)
        self.assertEqual(rank_of(((),)), 0)
        self.assertEqual(rank_of(Table.unit(12).rows), 12)
        for table in all_tables(2, 3, (-2, 0, 1)):
            self.assertEqual(rank_of(table.rows), plain_rank(table.rows))
        for table in some_tables(200, 81, (1, 6), (1, 6), 2):
            self.assertEqual(rank_of(table.rows), plain_rank(table.rows))

    def test_kernel_rows(self):
        self.assertEqual(kernel_row(Table([(2, -4, 0)]), (0, 1)), (2, 1, 0))
        self.assertEqual(kernel_row(Table([(-2, 4, 0)]), [1, 0]), (2, 1, 0))
        self.assertEqual(kernel_row(Table([(2, -4, 0)]), (2,)), (0, 0, 1))
        self.assertIsNone(kernel_row(Table([(2, -4, 0)]), (1,)))
        self.assertIsNone(kernel_row(Table([(2, -4, 0)]), ()))
        self.assertEqual(kernel_row(Table.zeros(0, 2), (1,)), (0, 1))
        self.assertIsNone(kernel_row(Table.zeros(0, 2), ()))

    def test_against_ranks(self):
        tables = list(some_tables(120, 82, (0, 4), (1, 5), 3)) + list(some_tables(60, 83, (1, 3), (3, 5), 1))
        for table in tables:
            for part in plain_parts(table.columns):
                columns = [table.column(j) for j in part]
                free = table.height > 0 and plain_rank(columns) == len(part) or part == ()
                self.assertIs(is_independent(table, part), free)
                row = kernel_row(table, part[::-1])
                self.assertEqual(row is None, free)
                if row is not None:
                    self.assertEqual(len(row), table.columns)
                    self.assertTrue(all(row[j] == 0 for j in range(table.columns) if j not in part))
                    self.assertGreater(next(a for a in row if a), 0)
                    self.assertEqual(math.gcd(*row), 1)
                    self.assertEqual(table(row), (0,) * table.height)

    def test_independent_by_small_rows(self):
        table = Table([(1, 1, 0), (0, 1, 1)])
        self.assertIs(is_independent(table, (0, 1)), True)
        self.assertIs(is_independent(table, (0, 1, 2)), False)
        zero = [x for x in itertools.product((-1, 0, 1), repeat=3) if any(x) and not any(table(x))]
        self.assertIn(kernel_row(table, (0, 1, 2)), zero)

    def test_twelve_columns(self):
        wide = Table.chain(12)
        self.assertEqual(kernel_row(wide, list(range(12))), (1,) * 12)
        self.assertIs(is_independent(wide, list(range(11))), True)

    def test_errors(self):
        for call in (kernel_row, is_independent):
            for wrong in WRONG_KINDS:
                self.assertEqual(error_of(call, Table.unit(3), wrong), ("BadSet", -1))
            self.assertEqual(error_of(call, Table.unit(3), [0, 3]), ("BadSet", 1))
            self.assertEqual(error_of(call, Table.unit(3), [0, 0]), ("BadSet", 1))


if __name__ == "__main__":
    unittest.main()
