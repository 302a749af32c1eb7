"""One column of any integers beside a firm table."""

import itertools
import unittest

from firmers import firm_tables, plain_lones, plain_squares
from makers import WRONG_INTEGERS, WRONG_KINDS, error_of, long_numbers, plain_parts, plain_splits, some_numbers
from rowmakers import all_of, dot
from splitnumbers.leasts import least_equal
from splitnumbers.loosecolumns import column_failing, column_sides
from splitnumbers.lonetolls import lone_toll
from splitnumbers.numbers import Numbers
from splitnumbers.tables import Table
from splitnumbers.tolls import serves

FIRM = list(firm_tables(24, 391, (1, 3), (1, 3)))
PAIR = Table([(1,), (1,)])


def plain_sides(table, column, tolls, part, signs):
    left = 0
    for i in range(table.height):
        total = column[i] + sum(table.rows[i][j] for j in part)
        if signs[i]:
            left += [t for t in (tolls[i], tolls[i] - 1) if (t - total) % 2 == 0][0]
    for j in part:
        left += dot(signs, table.column(j)) != 0
    return left, abs(dot(signs, column))


def columns_each(tables, seed, greatest=4):
    for k, table in enumerate(tables):
        yield table, tuple(some_numbers(table.height, seed + 97 * k * k, -greatest, greatest))


def some_tolls(column):
    """Tolls around those that may serve."""
    return itertools.product(*[range(max(1, abs(c) - 1), abs(c) + 3) for c in column])


class SidesTest(unittest.TestCase):
    def test_small_cases(self):
        self.assertEqual(column_sides(PAIR, (1, -1), (1, 2), (0,), (1, -1)), (2, 2))
        self.assertEqual(column_sides(PAIR, (1, -1), (1, 1), (0,), (1, -1)), (0, 2))
        self.assertEqual(column_sides(PAIR, [1, -1], [1, 1], [], [1, -1]), (2, 2))
        self.assertEqual(column_sides(PAIR, (1, -1), (1, 1), (0,), (1, 1)), (1, 0))
        self.assertEqual(column_sides(PAIR, (5, 0), (4, 9), (), (-1, 0)), (3, 5))
        self.assertEqual(column_sides(PAIR, Numbers([5, 0]), (4, 9), (0,), (0, 0)), (0, 0))
        self.assertEqual(column_sides(Table.zeros(0, 2), (), (), (0, 1), ()), (0, 0))
        # The table need not be firm, and it may be large.
        self.assertEqual(column_sides(Table([(2, 3)]), (7,), (6,), (0, 1), (1,)), (8, 7))
        big = Table([[1] * 12] * 12)
        self.assertEqual(column_sides(big, (3,) * 12, (4,) * 12, list(range(12)), (1,) * 12), (48, 36))

    def test_all_parts_and_signs(self):
        for table, column in columns_each(FIRM, 392):
            for tolls in itertools.islice(some_tolls(column), 0, None, 7):
                for part in plain_parts(table.columns):
                    for signs in all_of(table.height, (-1, 0, 1)):
                        sides = column_sides(table, column, tolls, part, signs)
                        self.assertEqual(sides, plain_sides(table, column, tolls, part, signs))

    def test_errors(self):
        table = Table([(2,) * 12] * 2)
        for wrong in WRONG_KINDS + (Numbers([1, 1], 2),):
            self.assertEqual(error_of(column_sides, table, wrong, None, None, None), ("BadNumbers", -1))
        for wrong in WRONG_INTEGERS:
            self.assertEqual(error_of(column_sides, table, (1, wrong, None), None, None, None), ("BadNumbers", 1))
        for column in ((), (1,), [1] * 3):
            self.assertEqual(error_of(column_sides, table, column, None, None, None), ("OtherSize", 2))
        for wrong in WRONG_KINDS:
            self.assertEqual(error_of(column_sides, table, (1, 1), wrong, None, None), ("BadTolls", -1))
            self.assertEqual(error_of(column_sides, table, (1, 1), (0, 0), wrong, None), ("BadSet", -1))
            self.assertEqual(error_of(column_sides, table, (1, 1), (0, 0), (), wrong), ("BadSigns", -1))
        for wrong in WRONG_INTEGERS:
            self.assertEqual(error_of(column_sides, table, (1, 1), (0, wrong, None), None, None), ("BadTolls", 1))
            self.assertEqual(error_of(column_sides, table, (1, 1), (0, 0), (0, wrong), None), ("BadSet", 1))
            self.assertEqual(error_of(column_sides, table, (1, 1), (0, 0), (), (0, wrong, None)), ("BadSigns", 1))
        self.assertEqual(error_of(column_sides, table, (1, 1), (0, -1), None, None), ("BadTolls", 1))
        self.assertEqual(error_of(column_sides, table, (1, 1), (0,), None, None), ("OtherSize", 2))
        self.assertEqual(error_of(column_sides, table, (1, 1), (0, 0), (0, 0), None), ("BadSet", 1))
        self.assertEqual(error_of(column_sides, table, (1, 1), (0, 0), (12,), None), ("BadSet", 0))
        self.assertEqual(error_of(column_sides, table, (1, 1), (0, 0), (0,), (2, 0)), ("BadSigns", 0))
        self.assertEqual(error_of(column_sides, table, (1, 1), (0, 0), (0,), (1, 0, 0)), ("OtherSize", 2))
        self.assertEqual(error_of(column_sides, table, (1, 1), (1, 0), (0,), (1, 0)), ("NotMet", "tolls"))
        self.assertEqual(error_of(column_sides, table, (1, 1), (1, 1), (0,), (0, 0)), None)


class FailingTest(unittest.TestCase):
    def test_small_cases(self):
        self.assertEqual(column_failing(PAIR, (1, -1), (1, 1)), ((0,), (1, -1)))
        self.assertIsNone(column_failing(PAIR, (1, -1), (1, 2)))
        self.assertIsNone(column_failing(PAIR, [0, 0], [1, 1]))
        self.assertEqual(column_failing(PAIR, (5, 0), (4, 1)), ((), (1, -1)))
        self.assertEqual(column_failing(PAIR, Numbers([0, 5]), (4, 4)), ((), (0, 1)))
        self.assertIsNone(column_failing(Table.zeros(0, 7), (), ()))
        self.assertIsNone(column_failing(Table.zeros(7, 7), (0,) * 7, (1,) * 7))

    def test_against_all_sides(self):
        seen = {True: 0, False: 0}
        for table, column in columns_each(FIRM, 393):
            lones = plain_lones(~table)
            beside = table.with_column(column)
            for tolls in some_tolls(column):
                failing = [(part, y) for part in plain_parts(table.columns) for y in lones
                           if plain_sides(table, column, tolls, part, y)[0] < plain_sides(table, column, tolls, part, y)[1]]
                self.assertEqual(column_failing(table, column, tolls), failing[0] if failing else None)
                serving = serves(beside, tolls)
                seen[serving] += 1
                self.assertEqual(serving, failing == [])
                for part in {part for part, _ in failing}:
                    self.assertEqual(plain_splits(beside, tolls, part + (table.columns,)), [])
        self.assertTrue(min(seen.values()) > 100, seen)

    def test_tolls_that_always_and_never_serve(self):
        for table, column in columns_each(FIRM, 395):
            self.assertIsNone(column_failing(table, column, [abs(c) + 1 for c in column]))
            for i in range(table.height):
                if abs(column[i]) > 1:
                    tolls = [abs(c) + 1 if k != i else abs(c) - 1 for k, c in enumerate(column)]
                    self.assertIsNotNone(column_failing(table, column, tolls))

    def test_determinants(self):
        for table, column in columns_each(FIRM, 396):
            greatest = max(abs(number) for _, columns, number in plain_squares(table.with_column(column))
                           if table.columns in columns)
            self.assertEqual(greatest, lone_toll(~table, column))

    def test_chains(self):
        for k in range(2, 7):
            chain = Table.chain(k)
            self.assertEqual(lone_toll(chain, (1,) * k), k)
            turned = ~chain
            self.assertIsNone(column_failing(turned, (1,) * k, (2,) * k))
            self.assertEqual(least_equal(turned.with_column((1,) * k)), 2)

    def test_seven_and_long_numbers(self):
        table = ~Table.chain(7).with_row((1, 0, 0, 0, 0, 0, 0))
        column = long_numbers(7, 3)
        self.assertIsNone(column_failing(table, column, [abs(c) + 1 for c in column]))
        tolls = [max(1, abs(c)) for c in column]
        beside = table.lot(list(range(7)), list(range(6))).with_column(column)
        self.assertEqual(column_failing(table.without_column(6), column, tolls) is None, serves(beside, tolls))

    def test_errors(self):
        wide = Table([(2,) * 8] * 2)
        for wrong in WRONG_KINDS:
            self.assertEqual(error_of(column_failing, wide, wrong, None), ("BadNumbers", -1))
            self.assertEqual(error_of(column_failing, wide, (1, 1), wrong), ("BadTolls", -1))
        for wrong in WRONG_INTEGERS:
            self.assertEqual(error_of(column_failing, wide, (1, wrong, None), None), ("BadNumbers", 1))
            self.assertEqual(error_of(column_failing, wide, (1, 1), (0, wrong, None)), ("BadTolls", 1))
        self.assertEqual(error_of(column_failing, wide, (1,), None), ("OtherSize", 2))
        self.assertEqual(error_of(column_failing, wide, (1, 1), (0,) * 3), ("OtherSize", 2))
        self.assertEqual(error_of(column_failing, wide, (1, 1), (1, 0)), ("NotMet", "tolls"))
        self.assertEqual(error_of(column_failing, wide, (1, 1), (1, 1)), ("TooMany", 7))
        tall = Table([(2,)] * 8)
        self.assertEqual(error_of(column_failing, tall, (1,) * 8, (0,) * 8), ("NotMet", "tolls"))
        self.assertEqual(error_of(column_failing, tall, (1,) * 8, (1,) * 8), ("TooMany", 7))
        self.assertEqual(error_of(column_failing, Table.zeros(0, 8), (), ()), ("TooMany", 7))
        self.assertEqual(error_of(column_failing, Table([(1, 1), (1, -1)]), (9, 9), (1, 1)), ("NotFirm", (0, 1)))
        self.assertEqual(error_of(column_failing, Table([(1, 3)]), (9,), (1,)), ("NotFirm", (1,)))


if __name__ == "__main__":
    unittest.main()
