"""Parts that fail below a firm table."""

import unittest

from callers import check_calls
from firmers import firm_tables, ones, plain_lones
from makers import error_of, plain_failing, some_numbers
from splitnumbers.failing import failing_lones, fails_at
from splitnumbers.lonetolls import lone_toll
from splitnumbers.numbers import Numbers
from splitnumbers.tables import Table
from splitnumbers.tolls import least_failing

FIRM = list(firm_tables(50, 271, (0, 4), (1, 5)))


class FailingTest(unittest.TestCase):
    def test_small_cases(self):
        table = Table([(1, 1, 1)])
        self.assertEqual(failing_lones(table, (2, -1, 0), 2), [(0, 1)])
        self.assertEqual(failing_lones(table, Numbers([2, -1, 0]), 3), [])
        self.assertEqual(failing_lones(table, [2, -1, 0], 0), [(0,), (1,)])
        self.assertEqual(failing_lones(table, (0, 0, 0), 0), [])
        self.assertEqual(failing_lones(Table([(1, 1, 0), (0, 1, -1)]), (1, 0, -2), 1), [(2,)])
        self.assertEqual(failing_lones(Table.chain(3), (1, 0, 2), 1), [(2,)])
        self.assertEqual(failing_lones(Table.chain(4), (1, 1, 1, 1), 1), [(0, 1), (1, 2), (2, 3)])
        self.assertEqual(failing_lones(Table.zeros(0, 3), (1, -2, 10 ** 30), 10 ** 30 - 1), [(2,)])
        self.assertIs(fails_at(table, (2, -1, 0), 2), True)
        self.assertIs(fails_at(table, (2, -1, 0), 3), False)
        self.assertIs(fails_at(table, (0, 0, 0), 0), False)

    def test_smaller_parts_come_first(self):
        table = Table([(1, 1, 0, 0), (0, 0, 1, 0)])
        self.assertEqual(failing_lones(table, (2, -2, 0, 3), 2), [(3,), (0, 1)])

    def test_against_all_parts(self):
        some = 0
        for k, table in enumerate(FIRM):
            row = some_numbers(table.columns, k, -4, 4)
            below = table.with_row(row)
            for toll in range(lone_toll(table, row) + 2):
                q = ones(table) + (toll,)
                parts = failing_lones(table, row, toll)
                some += len(parts)
                self.assertEqual(parts, least_failing(below, q))
                self.assertEqual(parts, sorted(parts, key=lambda part: (len(part), part)))
                failing = plain_failing(below, q)
                self.assertEqual(parts, [p for p in failing if not any(set(o) < set(p) for o in failing)])
                self.assertIs(fails_at(table, row, toll), bool(failing))
                worths = [abs(sum(a * b for a, b in zip(row, x))) for x in plain_lones(table)]
                self.assertEqual(bool(failing), any(worth > toll for worth in worths))
        self.assertTrue(some > 200)

    def test_twelve_rows_and_new_lists(self):
        table = Table.zeros(12, 7)
        self.assertEqual(failing_lones(table, (1, 2, 3, 4, 5, 6, 7), 5), [(5,), (6,)])
        failing_lones(table, (1,) * 7, 0).clear()
        self.assertEqual(len(failing_lones(table, (1,) * 7, 0)), 7)

    def test_errors(self):
        check_calls(self, failing_lones, ("row", "toll"))
        check_calls(self, fails_at, ("row", "toll"))
        self.assertEqual(error_of(fails_at, Table.unit(1), (1,), -1), ("BadNumber", "toll"))
        self.assertIsNone(error_of(fails_at, Table.unit(1), (1,), 0))


if __name__ == "__main__":
    unittest.main()
