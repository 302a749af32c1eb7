"""Tables pivoted at a number 1 or -1."""

import itertools
import unittest

from firmers import firm_tables, plain_determinant, plain_firm_table, plain_squares, with_loose_rows
from makers import WRONG_INTEGERS, WRONG_KINDS, error_of, plain_failing, plain_splits, serving_tolls, some_tables
from splitnumbers.pivoting import pivot_all, pivot_spots, pivoted
from splitnumbers.tables import Table


def pivots_of(table):
    return [(r, j) for r in range(table.height) for j in range(table.columns) if abs(table[r][j]) == 1]


def plain_pivoted(table, r, j):
    s = table[r][j]
    rows = [[table[i][k] - s * table[i][j] * table[r][k] for k in range(table.columns) if k != j]
            for i in range(table.height) if i != r]
    return Table(rows, columns=table.columns - 1)


def without(places, place):
    return tuple(k for k in places if k != place)


def lot_size(table, rows, columns):
    return abs(plain_determinant([tuple(table[i][j] for j in columns) for i in rows]))


class PivotedTest(unittest.TestCase):
    def test_small_cases(self):
        table = Table([(1, 1, 1), (2, 0, -1)])
        self.assertEqual(pivoted(table, 0, 0), Table([(-2, -3)]))
        self.assertEqual(pivoted(table, 1, 2), Table([(3, 1)]))
        self.assertEqual(pivoted(Table([(-1, 4), (3, 5)]), 0, 0), Table([(17,)]))
        self.assertEqual(pivoted(Table([(-1, 4)]), 0, 0), Table.zeros(0, 1))
        self.assertEqual(pivoted(Table([(10 ** 30, 1), (10 ** 30, 0)]), 0, 1), Table([(10 ** 30,)]))
        self.assertEqual(pivoted(Table.unit(12), 11, 11), Table.unit(11))

    def test_numbers_and_determinants(self):
        for table in some_tables(120, 161, (1, 4), (2, 4), 2):
            for r, j in pivots_of(table):
                small = pivoted(table, r, j)
                self.assertEqual(small, plain_pivoted(table, r, j))
                rows = without(range(table.height), r)
                columns = without(range(table.columns), j)
                for chosen, places, number in plain_squares(table):
                    if r in chosen and j in places and len(chosen) > 1:
                        left = [rows.index(i) for i in without(chosen, r)]
                        right = [columns.index(k) for k in without(places, j)]
                        self.assertEqual(lot_size(small, left, right), abs(number))

    def test_tolls_and_splits(self):
        looked_at = 0
        for table in some_tables(150, 162, (1, 3), (2, 4), 2):
            q = serving_tolls(table)
            for r, j in pivots_of(table):
                if q[r] == 1:
                    looked_at += 1
                    self.check_splits(table, q, r, j)
        self.assertTrue(looked_at > 100)

    def check_splits(self, table, q, r, j):
        s = table[r][j]
        small = pivoted(table, r, j)
        tolls = q[:r] + q[r + 1:]
        self.assertEqual(plain_failing(small, tolls), [])
        others = without(range(table.columns), j)
        for size in range(len(others) + 1):
            for places in itertools.combinations(others, size):
                both = (places, tuple(sorted(places + (j,))))
                even = [part for part in both if sum(table[r][k] for k in part) % 2 == 0]
                self.assertEqual(len(even), 1)
                theirs = plain_splits(small, tolls, [others.index(k) for k in places])
                for x in plain_splits(table, q, even[0]):
                    self.assertEqual(x[j], -s * sum(table[r][k] * x[k] for k in places))
                    self.assertIn(x[:j] + x[j + 1:], theirs)

    def test_firm_tables_stay_firm(self):
        looked_at = 0
        for table in firm_tables(60, 163, (1, 4), (2, 5)):
            for r, j in pivots_of(table):
                looked_at += 1
                self.assertTrue(plain_firm_table(pivoted(table, r, j)))
        self.assertTrue(looked_at > 100)

    def test_nothing_in_the_other_direction(self):
        table = Table([(1, 2, 0), (2, 4, 1)])
        self.assertEqual(plain_failing(pivoted(table, 0, 0), (1,)), [])
        self.assertNotEqual(plain_failing(table, (1, 1)), [])

    def test_errors(self):
        table = Table([(1, 2), (0, -1), (3, 1)])
        for wrong in WRONG_INTEGERS + (-1, 3):
            self.assertEqual(error_of(pivoted, table, wrong, None), ("BadSpot", "row"))
        for wrong in WRONG_INTEGERS + (-1, 2):
            self.assertEqual(error_of(pivoted, table, 0, wrong), ("BadSpot", "column"))
        for r, j in ((0, 1), (1, 0), (2, 0)):
            self.assertEqual(error_of(pivoted, table, r, j), ("NotFitting", "pivot"))
        only = Table([(1,), (-1,), (2,)])
        self.assertEqual(error_of(pivoted, only, 0, 0), ("NotFitting", "columns"))
        self.assertEqual(error_of(pivoted, only, 1, 0), ("NotFitting", "columns"))
        self.assertEqual(error_of(pivoted, only, 2, 0), ("NotFitting", "pivot"))
        self.assertEqual(error_of(pivoted, Table.zeros(0, 2), 0, 0), ("BadSpot", "row"))


class PivotAllTest(unittest.TestCase):
    def test_spots(self):
        table = Table([(1, 2, -1), (1, 1, 1), (0, -1, 3)])
        self.assertEqual(pivot_spots(table, (1, 2, 1)), [(0, 0), (0, 2), (2, 1)])
        self.assertEqual(pivot_spots(table, [0, 0, 0]), [])
        self.assertEqual(pivot_spots(Table.zeros(0, 2), ()), [])
        self.assertEqual(pivot_spots(Table([(1,)]), (1,)), [(0, 0)])
        for table in some_tables(60, 164, (0, 4), (1, 4), 2):
            for tolls in itertools.product((0, 1, 2), repeat=table.height):
                self.assertEqual(pivot_spots(table, tolls), [(r, j) for r, j in pivots_of(table) if tolls[r] == 1])

    def test_small_cases(self):
        table = Table([(1, 1, 1), (2, 0, -1)])
        self.assertEqual(pivot_all(table, (1, 3)), (Table([(-2, -3)]), (1,), (1, 2)))
        self.assertEqual(pivot_all(table, [2, 3]), (table, (0, 1), (0, 1, 2)))
        self.assertEqual(pivot_all(table, (1, 1)), (Table([(-2, -3)]), (1,), (1, 2)))
        self.assertEqual(pivot_all(Table([(1, 1)]), (1,)), (Table.zeros(0, 1), (), (1,)))
        self.assertEqual(pivot_all(Table([(-1,), (1,)]), (1, 1)), (Table([(-1,), (1,)]), (0, 1), (0,)))
        self.assertEqual(pivot_all(Table.zeros(0, 3), ()), (Table.zeros(0, 3), (), (0, 1, 2)))
        last, rows, columns = pivot_all(Table.unit(12), (1,) * 12)
        self.assertEqual((last, rows, columns), (Table.unit(1), (11,), (11,)))
        self.assertEqual(error_of(pivot_all, Table.unit(2), (1,)), ("OtherSize", 2))

    def test_step_by_step(self):
        for table in some_tables(100, 165, (0, 4), (1, 4), 2):
            for tolls in itertools.product((0, 1, 2), repeat=table.height):
                last = table
                left = list(tolls)
                rows = list(range(table.height))
                columns = list(range(table.columns))
                while last.columns > 1 and pivot_spots(last, left):
                    r, j = pivot_spots(last, left)[0]
                    last = plain_pivoted(last, r, j)
                    for listed, place in ((left, r), (rows, r), (columns, j)):
                        del listed[place]
                self.assertEqual(pivot_all(table, tolls), (last, tuple(rows), tuple(columns)))

    def test_tolls_and_determinants_of_what_is_left(self):
        for table in some_tables(80, 166, (1, 4), (2, 4), 2):
            q = serving_tolls(table)
            last, rows, columns = pivot_all(table, q)
            self.assertEqual(plain_failing(last, [q[i] for i in rows]), [])
            gone = [i for i in range(table.height) if i not in rows]
            taken = [j for j in range(table.columns) if j not in columns]
            for chosen, places, number in plain_squares(last):
                first_rows = sorted([rows[i] for i in chosen] + gone)
                first_columns = sorted([columns[j] for j in places] + taken)
                self.assertEqual(lot_size(table, first_rows, first_columns), abs(number))

    def test_square_tables(self):
        for loose in (0, 1, 2, 3):
            for table, q in with_loose_rows(20, 167 + loose, loose, (1, 4), 4):
                places = tuple(range(table.columns))
                last, rows, columns = pivot_all(table, q)
                self.assertEqual(last.height, last.columns)
                self.assertEqual(lot_size(last, range(len(rows)), range(len(rows))), lot_size(table, places, places))
                loose_ones = tuple(i for i in places if q[i] > 1)
                if loose_ones:
                    self.assertEqual(rows, loose_ones)
                else:
                    self.assertEqual((last.height, last.columns, abs(last[0][0])), (1, 1, 1))

    def test_errors(self):
        for call in (pivot_spots, pivot_all):
            table = Table.unit(3)
            for wrong in WRONG_KINDS:
                self.assertEqual(error_of(call, table, wrong), ("BadTolls", -1))
            for wrong in WRONG_INTEGERS + (-1,):
                self.assertEqual(error_of(call, table, [1, wrong, None]), ("BadTolls", 1))
            self.assertEqual(error_of(call, table, [1, 1]), ("OtherSize", 3))


if __name__ == "__main__":
    unittest.main()
