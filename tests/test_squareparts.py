"""Square parts and their determinants."""

import itertools
import math
import unittest

from firmers import plain_squares
from makers import WRONG_INTEGERS, error_of, first_of, some_numbers, some_tables
from splitnumbers.determinants import determinant
from splitnumbers.squareparts import greatest_square, square_parts, squares_with
from splitnumbers.tables import Table


class SquarePartsTest(unittest.TestCase):
    def test_against_the_definition(self):
        for table in some_tables(80, 121, (0, 5), (1, 5), 3):
            expected = plain_squares(table)
            found = list(square_parts(table))
            self.assertEqual(found, expected)
            self.assertEqual([part[:2] for part in found], sorted([part[:2] for part in found],
                                                                  key=lambda part: (len(part[0]), part)))
            for k in range(1, 7):
                with_k = [part for part in expected if len(part[0]) == k]
                self.assertEqual(squares_with(table, k), with_k)
                self.assertEqual(len(with_k), math.comb(table.height, k) * math.comb(table.columns, k))

    def test_lots_and_lengths(self):
        for table in (Table.chain(12), Table([(3, -1) * 6]), Table([(5,)] * 12), Table.zeros(0, 12)):
            parts = list(itertools.islice(square_parts(table), 3000))
            for rows, columns, number in parts[::7]:
                self.assertEqual(number, determinant(table.lot(rows, columns)))
        self.assertEqual(list(square_parts(Table.zeros(0, 5))), [])
        self.assertEqual(list(square_parts(Table([(4,)]))), [((0,), (0,), 4)])
        self.assertEqual(squares_with(Table([(5,), (6,)]), 1), [((0,), (0,), 5), ((1,), (0,), 6)])

    def test_twelve_rows_and_columns(self):
        numbers = some_numbers(144, 3, -9, 9)
        table = Table([numbers[k:k + 12] for k in range(0, 144, 12)])
        self.assertEqual(first_of(square_parts(table)), ((0,), (0,), table[0][0]))
        self.assertEqual(len(squares_with(table, 2)), 66 * 66)
        for rows, columns, number in squares_with(table, 3)[::997]:
            self.assertEqual(number, determinant(table.lot(rows, columns)))
        parts = square_parts(table)
        self.assertEqual([next(parts)[2] for _ in range(12)], list(table[0]))

    def test_linear_in_the_last_row(self):
        table = Table([(1, 2, 3), (4, 5, 7)])
        one = (1, 0, 2)
        other = (3, 1, -1)
        both = tuple(2 * a - 5 * b for a, b in zip(one, other))
        found = [[part[2] for part in squares_with(table.with_row(row), 3)] for row in (one, other, both)]
        self.assertEqual(found[2], [2 * a - 5 * b for a, b in zip(found[0], found[1])])

    def test_squares_with_errors(self):
        for wrong in WRONG_INTEGERS + (0, -1):
            self.assertEqual(error_of(squares_with, Table.unit(2), wrong), ("BadNumber", "number"))
        self.assertEqual(squares_with(Table.unit(2), 3), [])
        self.assertEqual(squares_with(Table.zeros(0, 2), 1), [])
        found = squares_with(Table.unit(2), 1)
        found.clear()
        self.assertEqual(len(squares_with(Table.unit(2), 1)), 4)


class GreatestSquareTest(unittest.TestCase):
    def test_against_all_parts(self):
        for table in some_tables(80, 122, (0, 4), (1, 5), 2):
            parts = plain_squares(table)
            if not parts:
                self.assertIsNone(greatest_square(table))
                continue
            size = max(abs(part[2]) for part in parts)
            self.assertEqual(greatest_square(table), next(part for part in parts if abs(part[2]) == size))
            for i in range(table.height):
                with_row = [part for part in parts if i in part[0]]
                size = max(abs(part[2]) for part in with_row)
                self.assertEqual(greatest_square(table, i), next(p for p in with_row if abs(p[2]) == size))

    def test_edges(self):
        self.assertEqual(greatest_square(Table.zeros(2, 3)), ((0,), (0,), 0))
        self.assertEqual(greatest_square(Table.zeros(2, 3), 1), ((1,), (0,), 0))
        self.assertIsNone(greatest_square(Table.zeros(0, 6)))
        self.assertEqual(greatest_square(Table([(1, -2), (2, 1)])), ((0, 1), (0, 1), 5))
        self.assertEqual(greatest_square(Table([(1, -2), (2, -4)])), ((1,), (1,), -4))
        self.assertEqual(greatest_square(Table([(-4, 4), (4, 4)]))[2], -32)
        self.assertEqual(greatest_square(Table([(0, -3), (0, 3)]), 1), ((1,), (1,), 3))
        self.assertEqual(greatest_square(Table.unit(6)), ((0,), (0,), 1))
        self.assertEqual(greatest_square(Table.unit(6), 5), ((5,), (5,), 1))

    def test_errors(self):
        tall = Table.zeros(7, 2)
        wide = Table.zeros(2, 7)
        for wrong in WRONG_INTEGERS[1:] + (-1, 7):
            self.assertEqual(error_of(greatest_square, tall, wrong), ("BadSpot", "row"))
        self.assertEqual(error_of(greatest_square, wide, 2), ("BadSpot", "row"))
        self.assertEqual(error_of(greatest_square, Table.zeros(0, 2), 0), ("BadSpot", "row"))
        for table in (tall, wide, Table.zeros(12, 12)):
            self.assertEqual(error_of(greatest_square, table), ("TooMany", 6))
            self.assertEqual(error_of(greatest_square, table, 1), ("TooMany", 6))
        self.assertEqual(error_of(greatest_square, Table.zeros(0, 7)), ("TooMany", 6))


if __name__ == "__main__":
    unittest.main()
