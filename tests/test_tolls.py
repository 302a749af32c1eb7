"""Tolls: their check, failing parts, loose rows."""

import unittest

from makers import WRONG_KINDS, all_tables, all_tolls, error_of, plain_failing, some_tables
from splitnumbers.tables import Table
from splitnumbers.tolls import failing_part, least_failing, loose_rows, serves, tolls_of

T = Table([(1, 1), (1, -1)])


class TollsTest(unittest.TestCase):
    def test_tolls_of(self):
        self.assertEqual(tolls_of([0, 3], 2), (0, 3))
        self.assertEqual(tolls_of((), 0), ())
        for wrong in WRONG_KINDS:
            self.assertEqual(error_of(tolls_of, wrong, 2), ("BadTolls", -1))
        for wrong in (-1, True, None, "1", 1.0, (1,)):
            self.assertEqual(error_of(tolls_of, [0, wrong, None], 2), ("BadTolls", 1))
        self.assertEqual(error_of(tolls_of, [0, 1, 2], 2), ("OtherSize", 2))
        self.assertEqual(error_of(tolls_of, [], 2), ("OtherSize", 2))

    def test_loose_rows(self):
        self.assertEqual(loose_rows([0, 1, 2, 1, 5]), (2, 4))
        self.assertEqual(loose_rows(()), ())
        self.assertEqual(loose_rows([1] * 20 + [2]), (20,))
        self.assertEqual(error_of(loose_rows, [2, -1]), ("BadTolls", 1))
        self.assertEqual(error_of(loose_rows, None), ("BadTolls", -1))

    def test_small_cases(self):
        self.assertEqual(failing_part(T, (1, 1)), (0, 1))
        self.assertEqual(failing_part(T, (0, 1)), (0,))
        self.assertIsNone(failing_part(T, (1, 2)))
        self.assertIs(serves(T, [2, 1]), True)
        self.assertIs(serves(T, (1, 1)), False)
        self.assertEqual(least_failing(T, (0, 0)), [(0,), (1,)])
        self.assertEqual(least_failing(T, [1, 1]), [(0, 1)])
        self.assertEqual(least_failing(T, (2, 2)), [])
        self.assertIs(serves(Table.zeros(3, 2), (0, 0, 0)), True)
        self.assertIs(serves(Table.zeros(0, 7), ()), True)
        self.assertEqual(failing_part(Table([(5,)]), (4,)), (0,))

    def test_against_all_signs(self):
        tables = list(some_tables(80, seed=6)) + list(all_tables(1, 3, (-1, 2, 3)))
        for table in tables:
            for tolls in all_tolls(table.height, 3):
                failing = plain_failing(table, tolls)
                self.assertEqual(failing_part(table, tolls), failing[0] if failing else None)
                self.assertEqual(serves(table, tolls), not failing)
                least = [part for part in failing if not any(set(other) < set(part) for other in failing)]
                self.assertEqual(least_failing(table, list(tolls)), least)

    def test_greatest_sizes(self):
        rows = [[(i * j * j + i + j) % 5 - 2 for j in range(7)] for i in range(12)]
        table = Table(rows)
        self.assertIs(serves(table, (14,) * 12), True)
        self.assertEqual(failing_part(table, (0,) * 12), (0,))
        self.assertEqual(failing_part(Table([(1,) * 6 + (20,)]), (13,)), (6,))
        self.assertEqual(least_failing(Table([(6, 5, 4, 3, 2, 1, 7)]), (6,)), [(6,)])

    def test_errors(self):
        wide = Table.zeros(2, 8)
        for call in (failing_part, serves, least_failing):
            for wrong in WRONG_KINDS:
                self.assertEqual(error_of(call, wide, wrong), ("BadTolls", -1))
            self.assertEqual(error_of(call, wide, (1, -1, 1)), ("BadTolls", 1))
            self.assertEqual(error_of(call, wide, (1, 1, 1)), ("OtherSize", 2))
            self.assertEqual(error_of(call, wide, (1, 1)), ("TooMany", 7))
            self.assertIsNone(error_of(call, Table.zeros(2, 7), (0, 0)))

    def test_new_list_at_each_call(self):
        least_failing(T, (0, 0)).append(None)
        self.assertEqual(least_failing(T, (0, 0)), [(0,), (1,)])


if __name__ == "__main__":
    unittest.main()
