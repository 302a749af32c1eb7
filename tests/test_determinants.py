"""Determinants."""

import itertools
import unittest

from firmers import plain_determinant
from makers import WRONG_INTEGERS, WRONG_KINDS, all_tables, error_of, long_numbers, some_numbers, some_tables
from splitnumbers.determinants import determinant
from splitnumbers.numbers import Numbers
from splitnumbers.tables import Table


def square_tables(many, seed, sizes=(1, 5), greatest=3):
    return [table.lot(list(range(size)), list(range(size)))
            for table in some_tables(many, seed, sizes, sizes, greatest)
            for size in [min(table.height, table.columns)]]


class DeterminantTest(unittest.TestCase):
    def test_small_cases(self):
        self.assertEqual(determinant([(7,)]), 7)
        self.assertEqual(determinant(([1, 2], (3, 4))), -2)
        self.assertEqual(determinant([(1, 1, 1), (-1, 2, -1), (-1, -1, 2)]), 9)
        self.assertEqual(determinant([(0, 1), (1, 0)]), -1)
        self.assertEqual(determinant([(0, 0, 1), (1, 0, 0), (0, 1, 0)]), 1)
        self.assertEqual(determinant(Table([(2, 1), (1, 1)])), 1)

    def test_by_the_definition(self):
        for entries in itertools.product((-2, 0, 1, 3), repeat=4):
            rows = [entries[:2], entries[2:]]
            self.assertEqual(determinant(rows), plain_determinant(rows))
        for table in all_tables(3, 3, (0, 1)):
            self.assertEqual(determinant(table), plain_determinant(table.rows))
        for table in square_tables(300, 111) + square_tables(100, 112, (3, 6), 1):
            self.assertEqual(determinant(table), plain_determinant(table.rows))
            self.assertEqual(determinant([list(row) for row in table.rows]), determinant(table))

    def test_unit(self):
        for count in range(1, 13):
            self.assertEqual(determinant(Table.unit(count)), 1)

    def test_linear_in_each_row(self):
        for k, table in enumerate(square_tables(60, 113)):
            n = table.columns
            for i in range(n):
                other = tuple(some_numbers(n, 7 * k + i, -4, 4))
                for s, t in ((2, -3), (0, 1), (-1, 5)):
                    row = tuple(s * a + t * b for a, b in zip(table[i], other))
                    rows = [list(table.rows) for _ in range(3)]
                    rows[1][i] = other
                    rows[2][i] = row
                    self.assertEqual(determinant(rows[2]), s * determinant(rows[0]) + t * determinant(rows[1]))

    def test_rows_exchanged_equal_and_turned(self):
        for table in square_tables(80, 114, (2, 5)):
            size = table.columns
            for i, k in itertools.combinations(range(size), 2):
                rows = list(table.rows)
                rows[i], rows[k] = rows[k], rows[i]
                self.assertEqual(determinant(rows), -determinant(table))
                rows[i] = rows[k]
                self.assertEqual(determinant(rows), 0)
            self.assertEqual(determinant(~table), determinant(table))

    def test_long_numbers_and_many_rows(self):
        numbers = long_numbers(36, 5)
        rows = [tuple(numbers[k:k + 6]) for k in range(0, 36, 6)]
        self.assertEqual(determinant(rows), plain_determinant(rows))
        # Each row is the first one's stretch of 1, shifted: the determinant is that of a table of triangles.
        size = 40
        rows = [tuple(j + 2 if j == i else int(j < i) for j in range(size)) for i in range(size)]
        expected = 1
        for j in range(size):
            expected *= j + 2
        self.assertEqual(determinant(rows), expected)
        self.assertEqual(determinant(rows[::-1]), expected)
        self.assertEqual(determinant([(0,) * size] + rows[1:]), 0)

    def test_errors(self):
        for wrong in WRONG_KINDS + ([], (), Numbers([1])):
            self.assertEqual(error_of(determinant, wrong), ("BadRows", -1))
        for wrong in WRONG_KINDS + (Numbers([1, 2]), (1,), (1, 2, 3), ()):
            self.assertEqual(error_of(determinant, [(1, 2), wrong, None]), ("BadRows", 1))
        for wrong in WRONG_INTEGERS:
            self.assertEqual(error_of(determinant, [(1, 2), (1, wrong)]), ("BadRows", 1))
            self.assertEqual(error_of(determinant, [(wrong,)]), ("BadRows", 0))
        for rows in ([()], [(1, 2)], [(1,), (2,)], [(1, 2, 3), (4, 5, 6)], Table([(1, 2)]), Table.zeros(0, 1),
                     Table.zeros(0, 3), Table.zeros(3, 1)):
            self.assertEqual(error_of(determinant, rows), ("NotFitting", "square"))

    def test_what_is_handed_in_stays(self):
        rows = [[0, 2], [3, 4]]
        self.assertEqual(determinant(rows), -6)
        self.assertEqual(rows, [[0, 2], [3, 4]])


if __name__ == "__main__":
    unittest.main()
