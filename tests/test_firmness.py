"""Firm tables and firm lots."""

import unittest

from firmers import firm_tables, ones, plain_firm_table, plain_squares
from makers import WRONG_KINDS, all_tables, error_of, plain_failing, plain_parts, plain_splits, some_tables
from splitnumbers.firmness import firm_lots, is_firm, least_loose, unfirm_part
from splitnumbers.leasts import least_tolls
from splitnumbers.lonesums import firm_lones
from splitnumbers.tables import Table
from splitnumbers.tolls import serves


def row_lot(table, rows):
    return table.lot(rows, list(range(table.columns)))


class FirmTest(unittest.TestCase):
    def test_small_cases(self):
        table = Table([(1, 1), (1, -1), (2, 0)])
        self.assertEqual((unfirm_part(table), unfirm_part(table.without_row(2))), ((0,), (0, 1)))
        self.assertIs(is_firm(table), False)
        self.assertIs(is_firm(table.lot((0,), (0, 1))), True)
        self.assertIsNone(unfirm_part(table.lot((0,), (0, 1))))
        self.assertEqual(unfirm_part(Table([(1, 0, 5), (0, -2, 1)])), (1,))
        self.assertEqual(unfirm_part(Table([(1, 1, 1, 0), (0, 0, 1, 1), (1, 0, 0, 1)])), (0, 2, 3))
        self.assertEqual(unfirm_part(Table([(1, 1, 0), (0, 1, 1), (1, 0, 1)])), (0, 1, 2))

    def test_without_rows_and_with_zeros(self):
        for columns in range(1, 8):
            self.assertIs(is_firm(Table.zeros(0, columns)), True)
            self.assertIs(is_firm(Table.zeros(12, columns)), True)
            self.assertIsNone(unfirm_part(Table.chain(columns)))

    def test_by_parts_and_by_determinants(self):
        tables = list(all_tables(2, 3, (-1, 0, 1))) + list(some_tables(150, 171, (0, 4), (1, 4), 1))
        tables += list(firm_tables(60, 172)) + list(some_tables(60, 173, (1, 3), (1, 3), 3))
        for table in tables:
            failing = plain_failing(table, ones(table))
            self.assertEqual(unfirm_part(table), failing[0] if failing else None)
            self.assertIs(is_firm(table), failing == [])
            self.assertEqual(is_firm(table), all(part[2] in (-1, 0, 1) for part in plain_squares(table)))
            if any(abs(number) > 1 for row in table.rows for number in row):
                self.assertIs(is_firm(table), False)

    def test_errors(self):
        for table in (Table.zeros(1, 8), Table.zeros(7, 8), Table([(2,) * 12])):
            for call in (is_firm, unfirm_part, firm_lots, least_loose, firm_lones):
                self.assertEqual(error_of(call, table), ("TooMany", 7))
        for call in (firm_lots, least_loose):
            self.assertEqual(error_of(call, Table.zeros(7, 7)), ("TooMany", 6))
            self.assertIsNone(error_of(call, Table.zeros(6, 7)))
        self.assertIs(is_firm(Table.zeros(12, 7)), True)
        self.assertEqual(error_of(firm_lones, Table([(1, 1, 2), (1, -1, 0)])), ("NotFirm", (2,)))
        self.assertEqual(error_of(firm_lones, Table([(1, 1), (1, -1)])), ("NotFirm", (0, 1)))


class FirmLotsTest(unittest.TestCase):
    def test_small_cases(self):
        table = Table([(1, 1), (1, -1), (2, 0)])
        self.assertEqual((firm_lots(table), least_loose(table)), ([(0,), (1,)], 2))
        self.assertEqual((firm_lots(Table([(2, 0), (0, 3)])), least_loose(Table([(2, 0), (0, 3)]))), ([()], 2))
        self.assertEqual((firm_lots(Table.zeros(0, 3)), least_loose(Table.zeros(0, 3))), ([()], 0))
        self.assertEqual((firm_lots(Table.unit(6)), least_loose(Table.unit(6))), ([(0, 1, 2, 3, 4, 5)], 0))
        ring = Table([(1, 1, 0), (0, 1, 1), (1, 0, 1)])
        self.assertEqual((firm_lots(ring), least_loose(ring)), ([(0, 1), (0, 2), (1, 2)], 1))

    def test_against_all_sets_of_rows(self):
        for table in some_tables(80, 174, (0, 5), (1, 4), 1):
            firm = [rows for rows in plain_parts(table.height) if plain_firm_table(row_lot(table, rows))]
            most = [rows for rows in firm if not any(set(rows) < set(other) for other in firm)]
            self.assertEqual(firm_lots(table), sorted(most))
            self.assertEqual(least_loose(table), table.height - max(len(rows) for rows in firm))
            for rows in firm:
                self.assertTrue(all(other in firm for other in plain_parts(table.height) if set(other) <= set(rows)))

    def test_lots_and_serving_tolls(self):
        for table in some_tables(60, 175, (0, 4), (1, 4), 2):
            firm = [rows for rows in plain_parts(table.height) if is_firm(row_lot(table, rows))]
            served = least_tolls(table)
            for q in served:
                self.assertIn(tuple(i for i, toll in enumerate(q) if toll <= 1), firm)
            self.assertEqual(least_loose(table), min(sum(1 for toll in q if toll > 1) for q in served))
            for rows in firm:
                tolls = [1 if i in rows else sum(map(abs, row)) for i, row in enumerate(table.rows)]
                self.assertTrue(serves(table, tolls))

    def test_new_list(self):
        firm_lots(Table.unit(2)).clear()
        self.assertEqual(firm_lots(Table.unit(2)), [(0, 1)])


class FirmErrorsTest(unittest.TestCase):
    def test_the_part_is_the_first_one(self):
        for table in some_tables(60, 176, (1, 4), (1, 4), 1):
            failing = plain_failing(table, ones(table))
            expected = ("NotFirm", failing[0]) if failing else None
            self.assertEqual(error_of(firm_lones, table), expected)
            if failing:
                self.assertEqual(plain_splits(table, ones(table), failing[0]), [])

    def test_no_wrong_kinds_are_taken_for_tables(self):
        # Nothing is promised for other kinds than tables: no error of the package hides there.
        for wrong in WRONG_KINDS:
            self.assertRaises(Exception, is_firm, wrong)


if __name__ == "__main__":
    unittest.main()
