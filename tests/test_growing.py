"""Rows and columns that go in a firm table, and the lone splits that come with them."""

import itertools
import unittest

from callers import check_calls, wrong_rows
from firmers import firm_tables, negative, plain_firm_table, plain_lones
from makers import error_of, some_numbers
from splitnumbers.firmness import is_firm
from splitnumbers.growing import column_goes_in, goes_in, grown_lones, rows_that_go_in
from splitnumbers.lonesums import firm_lones
from splitnumbers.numbers import Numbers
from splitnumbers.pairs import pairs_of
from splitnumbers.tables import Table

FIRM = list(firm_tables(40, 211, (0, 4), (1, 4)))


def worth(row, x):
    return abs(sum(a * b for a, b in zip(row, x)))


def rows_of(table, numbers=(-1, 0, 1)):
    return list(itertools.product(numbers, repeat=table.columns))


class RowsTest(unittest.TestCase):
    def test_small_cases(self):
        table = Table([(1, 1, 0)])
        lones = [(0, 0, 1), (0, 1, 0), (1, -1, -1), (1, -1, 0), (1, 0, -1), (1, 0, 0)]
        self.assertEqual(grown_lones(table, (1, 0, 1)), lones)
        self.assertEqual(grown_lones(table, Numbers([1, 0, 1])), lones)
        self.assertIs(goes_in(table, [1, 0, 1]), True)
        self.assertIs(goes_in(table, (1, -1, 0)), False)
        self.assertIs(goes_in(table, (0, 0, 2)), False)
        self.assertEqual(rows_that_go_in(Table([(1, 1)]))[:3], [(-1, -1), (-1, 0), (0, -1)])
        self.assertEqual(rows_that_go_in(Table([(1, 1)])), [(-1, -1), (-1, 0), (0, -1), (0, 0), (0, 1), (1, 0), (1, 1)])
        self.assertEqual(len(rows_that_go_in(Table.zeros(0, 5))), 243)
        rows_that_go_in(Table([(1, 1)])).clear()
        grown_lones(table, (1, 0, 1)).clear()
        self.assertEqual((len(rows_that_go_in(Table([(1, 1)]))), len(grown_lones(table, (1, 0, 1)))), (7, 6))

    def test_rows_against_the_larger_table(self):
        for table in FIRM:
            lones = plain_lones(table)
            fitting = []
            for row in rows_of(table):
                firm = plain_firm_table(table.with_row(row))
                self.assertIs(goes_in(table, row), firm)
                self.assertEqual(firm, all(worth(row, x) <= 1 for x in lones))
                if firm:
                    fitting.append(row)
            self.assertEqual(rows_that_go_in(table), fitting)
            singles = [tuple(s * int(k == j) for k in range(table.columns)) for j in range(table.columns) for s in (1, -1)]
            for row in list(table.rows) + singles + [(0,) * table.columns]:
                self.assertIn(row, fitting)
            self.assertTrue(all(negative(row) in fitting for row in fitting))

    def test_rows_of_greater_numbers(self):
        for k, table in enumerate(FIRM):
            row = some_numbers(table.columns, k, -1, 1)
            row[k % table.columns] = (2, -2, 10 ** 30)[k % 3]
            self.assertIs(goes_in(table, row), False)
            self.assertEqual(error_of(grown_lones, table, row), ("NotFitting", "row"))

    def test_grown_lones(self):
        new = 0
        for table in FIRM:
            for row in rows_that_go_in(table):
                grown = grown_lones(table, row)
                self.assertEqual(grown, plain_lones(table.with_row(row)))
                pairs = [(u, v) for u, v in pairs_of(table) if worth(row, u) == worth(row, v) == 1]
                self.assertEqual(len(grown), len(firm_lones(table)) + len(pairs))
                new += len(pairs)
        self.assertTrue(new > 200)

    def test_every_order(self):
        for table in FIRM[:15]:
            fitting = rows_that_go_in(table)[::5]
            for one, other in itertools.combinations(fitting, 2):
                if goes_in(table.with_row(one), other):
                    self.assertTrue(goes_in(table.with_row(other), one))
                    self.assertEqual(grown_lones(table.with_row(one), other), grown_lones(table.with_row(other), one))

    def test_twelve_rows(self):
        table = Table.unit(5) & Table.zeros(7, 5)
        self.assertIs(goes_in(table, (1,) * 5), True)
        self.assertEqual(len(grown_lones(table, (1,) * 5)), 15)
        self.assertEqual(len(rows_that_go_in(table)), 243)

    def test_errors(self):
        check_calls(self, goes_in, ("row",))
        check_calls(self, grown_lones, ("row",))
        check_calls(self, lambda table: rows_that_go_in(table), (), 5)
        self.assertEqual(error_of(grown_lones, Table([(1, 1)]), (1, -1)), ("NotFitting", "row"))
        self.assertEqual(error_of(grown_lones, Table([(1, 2)]), (1, 2)), ("NotFirm", (1,)))
        self.assertEqual(error_of(rows_that_go_in, Table.zeros(0, 6)), ("TooMany", 5))


class ColumnsTest(unittest.TestCase):
    def test_columns_against_the_larger_table(self):
        for table in FIRM:
            for column in itertools.product((-1, 0, 1), repeat=table.height):
                larger = table.with_column(column)
                self.assertIs(column_goes_in(table, column), plain_firm_table(larger))
                if table.height:
                    self.assertEqual(column_goes_in(table, column), goes_in(~table, column))

    def test_small_cases(self):
        self.assertIs(column_goes_in(Table.zeros(0, 6), ()), True)
        self.assertIs(column_goes_in(Table.unit(2), [1, -1]), True)
        self.assertIs(column_goes_in(Table([(1,), (1,)]), Numbers([1, -1])), False)
        self.assertIs(column_goes_in(Table([(1,), (1,)]), (0, 2)), False)
        self.assertIs(column_goes_in(Table.zeros(12, 6), (1,) * 12), True)

    def test_turned_tables(self):
        for table in FIRM:
            if table.height:
                self.assertTrue(is_firm(~table))

    def test_rows_and_columns_taken_out(self):
        for table in FIRM:
            lones = firm_lones(table)
            for j in range(table.columns if table.columns > 1 else 0):
                cut = [x[:j] + x[j + 1:] for x in lones if x[j] == 0]
                self.assertEqual(firm_lones(table.without_column(j)), cut)
            for i in range(table.height):
                self.assertTrue(set(firm_lones(table.without_row(i))) <= set(lones))

    def test_errors(self):
        wide = Table([(2,) * 7, (0,) * 7])
        for wrong, error in wrong_rows(2):
            self.assertEqual(error_of(column_goes_in, wide, wrong), error)
        self.assertEqual(error_of(column_goes_in, wide, (0, 0)), ("TooMany", 7))
        self.assertEqual(error_of(column_goes_in, Table.zeros(1, 12), (0,)), ("TooMany", 7))
        self.assertEqual(error_of(column_goes_in, Table([(1, 2)]), (5,)), ("NotFirm", (1,)))
        self.assertEqual(error_of(column_goes_in, Table([(1, 1), (1, -1)]), (0, 0)), ("NotFirm", (0, 1)))
        self.assertIs(column_goes_in(Table([(1, 1)]), (5,)), False)


if __name__ == "__main__":
    unittest.main()
