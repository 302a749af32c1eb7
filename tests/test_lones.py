"""Lone splits, the toll of a further row, the part that decides it."""

import itertools
import unittest

from makers import (WRONG_KINDS, all_tolls, error_of, plain_failing, plain_parts, plain_signs, plain_splits,
                    serving_tolls, some_numbers, some_tables)
from splitnumbers.lones import is_lone, lone_splits, lone_worth, part_of_toll, toll_of_row
from splitnumbers.numbers import Numbers
from splitnumbers.tables import Table
from splitnumbers.tolls import serves

T = Table([(1, 1), (1, -1)])


def worth(row, x):
    return abs(sum(a * b for a, b in zip(row, x)))


def plain_lones(table, tolls):
    found = []
    for part in plain_parts(table.columns)[1:]:
        splits = plain_splits(table, tolls, part)
        if len(splits) == 2:
            found.append(splits[1])
    return sorted(found)


class LonesTest(unittest.TestCase):
    def test_small_cases(self):
        self.assertEqual(lone_splits(T, (2, 1)), [(0, 1), (1, 0), (1, 1)])
        self.assertEqual(lone_splits(T, [2, 2]), [(0, 1), (1, 0)])
        self.assertEqual(lone_splits(T, (0, 0)), [])
        self.assertEqual(lone_splits(Table.zeros(0, 3), ()), [(0, 0, 1), (0, 1, 0), (1, 0, 0)])
        self.assertIs(is_lone(T, (2, 1), (1, 1)), True)
        self.assertIs(is_lone(T, (2, 1), [-1, -1]), True)
        self.assertIs(is_lone(T, (2, 1), (1, -1)), False)
        self.assertIs(is_lone(T, (2, 2), (1, 1)), False)
        self.assertIs(is_lone(T, (2, 1), (0, 0)), False)

    def test_against_all_signs(self):
        for table in some_tables(50, seed=31):
            for tolls in all_tolls(table.height, 2):
                lones = plain_lones(table, tolls)
                self.assertEqual(lone_splits(table, tolls), lones)
                for part in plain_parts(table.columns):
                    for x in plain_signs(part, table.columns):
                        self.assertIs(is_lone(table, tolls, x), x in lones or tuple(-a for a in x) in lones)

    def test_is_lone_with_twelve_columns(self):
        ones = (1,) * 12
        other = tuple((-1) ** j for j in range(12))
        self.assertIs(is_lone(Table.chain(12), (1,) * 11, ones), True)
        self.assertIs(is_lone(Table.chain(12), (1,) * 11, other), False)
        self.assertIs(is_lone(Table.chain(12), (2,) * 11, ones), False)
        pairs = Table([tuple(int(k in (j, j + 1)) for k in range(12)) for j in range(11)])
        self.assertIs(is_lone(pairs, (0,) * 11, other), True)
        self.assertIs(is_lone(pairs, (0,) * 11, tuple(-a for a in other)), True)
        self.assertIs(is_lone(pairs, (0,) * 11, ones), False)

    def test_errors_of_lones(self):
        wide = Table.zeros(2, 8)
        for call in (is_lone, lambda table, tolls, _: lone_splits(table, tolls)):
            for wrong in WRONG_KINDS:
                self.assertEqual(error_of(call, wide, wrong, None), ("BadTolls", -1))
            self.assertEqual(error_of(call, wide, (1, -1, 0), None), ("BadTolls", 1))
            self.assertEqual(error_of(call, wide, (1,), None), ("OtherSize", 2))
        self.assertEqual(error_of(lone_splits, wide, (1, 1)), ("TooMany", 7))
        self.assertEqual(error_of(is_lone, wide, (1, 1), None), ("BadSigns", -1))
        self.assertEqual(error_of(is_lone, wide, (1, 1), (0, 2)), ("BadSigns", 1))
        self.assertEqual(error_of(is_lone, wide, (1, 1), (0, 1)), ("OtherSize", 8))

    def test_new_list(self):
        lone_splits(T, (2, 1)).clear()
        self.assertEqual(lone_splits(T, (2, 1)), [(0, 1), (1, 0), (1, 1)])


class TollOfRowTest(unittest.TestCase):
    def test_small_cases(self):
        self.assertEqual((toll_of_row(T, (2, 1), (3, 1)), toll_of_row(T, (2, 2), (3, 1))), (4, 3))
        self.assertEqual((part_of_toll(T, (2, 1), (3, 1)), part_of_toll(T, (2, 2), (3, 1))), ((0, 1), (0,)))
        self.assertEqual((toll_of_row(T, (2, 1), (0, 0)), part_of_toll(T, (2, 1), (0, 0))), (0, None))
        self.assertEqual(toll_of_row(T, (2, 1), Numbers([3, 1])), 4)
        self.assertEqual(lone_worth(T, (2, 1), (3, 1)), 4)
        self.assertEqual(lone_worth(T, (0, 0), (3, 1)), 0)
        self.assertEqual(toll_of_row(Table.zeros(0, 3), (), (2, -5, 3)), 5)
        self.assertEqual(part_of_toll(Table.zeros(0, 3), (), (2, -5, 3)), (1,))
        self.assertEqual(part_of_toll(Table.zeros(0, 3), (), (5, -5, 3)), (0,))
        self.assertEqual(lone_worth(Table.zeros(0, 3), [], (2, -5, 3)), 5)

    def test_twelve_rows(self):
        table = Table.unit(7) & Table.zeros(5, 7)
        tolls = (1,) * 7 + (0,) * 5
        self.assertEqual(toll_of_row(table, tolls, (1,) * 7), 1)
        self.assertEqual(part_of_toll(table, tolls, (1,) * 7), (0,))
        self.assertEqual(lone_worth(table, tolls, (1,) * 7), 1)

    def test_against_serving(self):
        for k, table in enumerate(some_tables(40, seed=32, heights=(0, 3), widths=(1, 4))):
            q = serving_tolls(table)
            row = some_numbers(table.columns, k, -4, 4)
            below = table.with_row(row)
            h = toll_of_row(table, q, row)
            self.assertTrue(serves(below, q + (h,)))
            lones = plain_lones(table, q)
            self.assertEqual(lone_worth(table, q, row), max([0] + [worth(row, x) for x in lones]))
            self.assertGreaterEqual(h, lone_worth(table, q, row))
            worths = {part: min(worth(row, x) for x in plain_splits(table, q, part))
                      for part in plain_parts(table.columns)[1:]}
            self.assertEqual(h, max(worths.values()))
            if h == 0:
                self.assertIsNone(part_of_toll(table, q, row))
            else:
                self.assertFalse(serves(below, q + (h - 1,)))
                first = next(part for part in worths if worths[part] == h)
                self.assertEqual(part_of_toll(table, q, row), first)
                self.assertEqual(plain_failing(below, q + (h - 1,))[0], first)

    def test_greater_tolls(self):
        for k, table in enumerate(some_tables(40, seed=33, heights=(1, 3), widths=(1, 3))):
            q = serving_tolls(table)
            row = some_numbers(table.columns, k + 5, -4, 4)
            for more in itertools.product((0, 1, 2), repeat=table.height):
                greater = tuple(a + b for a, b in zip(q, more))
                self.assertTrue(set(lone_splits(table, greater)) <= set(lone_splits(table, q)))
                self.assertLessEqual(toll_of_row(table, greater, row), toll_of_row(table, q, row))

    def test_without_rows(self):
        for columns in range(1, 6):
            row = some_numbers(columns, columns, -9, 9)
            table = Table.zeros(0, columns)
            unit = [tuple(int(k == j) for k in range(columns)) for j in range(columns)]
            self.assertEqual(lone_splits(table, ()), sorted(unit))
            self.assertEqual(toll_of_row(table, (), row), max(abs(a) for a in row))

    def test_sums_of_rows(self):
        for k, table in enumerate(some_tables(40, seed=34, heights=(1, 3), widths=(1, 4))):
            q = serving_tolls(table)
            times = some_numbers(table.height, k, -3, 3)
            row = [sum(t * table[i][j] for i, t in enumerate(times)) for j in range(table.columns)]
            bound = sum(abs(t) * q[i] for i, t in enumerate(times))
            self.assertLessEqual(toll_of_row(table, q, row), bound)
            for part in plain_parts(table.columns):
                self.assertTrue(all(worth(row, x) <= bound for x in plain_splits(table, q, part)))

    def test_errors(self):
        wide = Table.zeros(1, 8).times_row(0, 1)
        for call in (toll_of_row, part_of_toll, lone_worth):
            for wrong in WRONG_KINDS:
                self.assertEqual(error_of(call, wide, wrong, None), ("BadTolls", -1))
                self.assertEqual(error_of(call, wide, (1,), wrong), ("BadNumbers", -1))
            self.assertEqual(error_of(call, wide, (1, 1), None), ("OtherSize", 1))
            self.assertEqual(error_of(call, wide, (1,), [0, (1, 2)]), ("BadNumbers", 1))
            self.assertEqual(error_of(call, wide, (1,), Numbers([1] * 8, 2)), ("BadNumbers", -1))
            self.assertEqual(error_of(call, wide, (1,), [0]), ("OtherSize", 8))
            self.assertEqual(error_of(call, wide, (1,), [0] * 8), ("TooMany", 7))
        for call in (toll_of_row, part_of_toll):
            self.assertEqual(error_of(call, Table([(1,) * 8]), (0,), [0] * 8), ("TooMany", 7))
            self.assertEqual(error_of(call, T, (1, 1), (1, 1)), ("NotServing", (0, 1)))
            self.assertEqual(error_of(call, T, (1, 0), (1, 1)), ("NotServing", (0,)))
        self.assertIsNone(error_of(lone_worth, T, (1, 0), (1, 1)))


if __name__ == "__main__":
    unittest.main()
