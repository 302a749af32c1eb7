"""Rows that do not hurt one another, tables of two rows, and the told tables."""

import itertools
import unittest
from fractions import Fraction

from callers import check_calls
from firmers import firm_tables, plain_determinant
from makers import WRONG_INTEGERS, WRONG_KINDS, all_tolls, error_of, long_numbers, plain_failing, some_tables
from rounders import fractions_of, plain_miss, plain_within, told
from rowmakers import all_of, dot, two_rows_each, ways_of, worth
from splitnumbers.agreeing import agree, couple_failing, harm
from splitnumbers.examples3 import mix_table, nine_table, three_columns, three_halves
from splitnumbers.leasts import least_tolls
from splitnumbers.lones import lone_splits, lone_worth, toll_of_row
from splitnumbers.lonetolls import lone_toll
from splitnumbers.nearest import near_bound, near_quotient, near_rounding
from splitnumbers.numbers import Numbers
from splitnumbers.pairs import pairs_of
from splitnumbers.pairtolls import pair_serves
from splitnumbers.solving import solve
from splitnumbers.stairs import stairs_of
from splitnumbers.tables import Table
from splitnumbers.tolls import failing_part, serves

FIRM = list(firm_tables(40, 331, (0, 3), (1, 4))) + list(firm_tables(5, 332, (0, 2), (5, 7)))
FREE = Table.zeros(0, 2)


class HarmTest(unittest.TestCase):
    def test_small_cases(self):
        self.assertEqual(harm(FREE, (3, 3), (3, -3)), ((1, 0), (0, 1)))
        self.assertIsNone(harm(FREE, (3, 3), (2, 0)))
        self.assertIsNone(harm(FREE, [3, 3], Numbers([3, 3])))
        # Here the toll of a row is 0.
        self.assertIsNone(harm(FREE, (0, 0), (5, 5)))
        self.assertIsNone(harm(FREE, (0, 0), (0, 0)))
        self.assertIsNone(harm(Table.zeros(12, 1), (4,), (4,)))
        self.assertEqual(harm(Table.zeros(12, 3), (1, 0, 1), (1, 0, -1)), ((1, 0, 0), (0, 0, 1)))

    def test_against_all_pairs(self):
        seen = {True: 0, False: 0}
        for table, one, other in two_rows_each(FIRM, 333):
            tolls = lone_toll(table, one), lone_toll(table, other)
            without = [pair for pair in pairs_of(table)
                       if not any(worth(one, way) <= tolls[0] and worth(other, way) <= tolls[1] for way in ways_of(pair))]
            self.assertEqual(harm(table, one, other), without[0] if without else None)
            seen[bool(without)] += 1
            if min(tolls) >= 1:
                self.assertEqual(pair_serves(table, one, other, *tolls), not without)
        self.assertTrue(min(seen.values()) > 3, seen)

    def test_long_numbers(self):
        for table in (Table.zeros(0, 7), Table.chain(7), Table.zeros(12, 4)):
            one, other = long_numbers(table.columns, 1), long_numbers(table.columns, 2)
            tolls = lone_toll(table, one), lone_toll(table, other)
            self.assertEqual(harm(table, one, other) is None, pair_serves(table, one, other, *tolls))

    def test_errors(self):
        check_calls(self, harm, ("row", "row"))


class AgreeTest(unittest.TestCase):
    def test_small_cases(self):
        self.assertIs(agree(FREE, (3, 3), (2, 0)), True)
        self.assertIs(agree(FREE, (3, 3), (3, -3)), False)
        self.assertIs(agree(FREE, (3, -3), [3, 3]), False)
        self.assertIs(agree(FREE, (-1, -2), Numbers([4, 9])), True)
        self.assertIs(agree(FREE, (0, 0), (1, -1)), True)
        # Without a pair rows agree.
        self.assertIs(agree(Table([(1, 1)]), (1, 1), (1, -1)), True)
        self.assertIs(agree(Table.zeros(12, 1), (1,), (-1,)), True)

    def test_against_all_pairs(self):
        seen = {True: 0, False: 0}
        for table, one, other in two_rows_each(list(FIRM) + list(firm_tables(60, 338, (0, 3), (1, 3))), 334, 1):
            products = [(dot(one, u) * dot(one, v), dot(other, u) * dot(other, v)) for u, v in pairs_of(table)]
            against = [1 for a, b in products if (a > 0 > b) or (a < 0 < b)]
            self.assertIs(agree(table, one, other), against == [])
            self.assertIs(agree(table, other, one), against == [])
            seen[bool(against)] += 1
            if not against:
                self.assertIsNone(harm(table, one, other))
        self.assertTrue(min(seen.values()) > 5, seen)

    def test_rows_that_do_not_agree_may_not_hurt(self):
        # The pair of the first two columns is against it, but its way u - v is within both tolls: 2 is that of column 2.
        self.assertIs(agree(Table.zeros(0, 3), (2, 2, 0), (1, -1, 2)), False)
        self.assertIsNone(harm(Table.zeros(0, 3), (2, 2, 0), (1, -1, 2)))

    def test_errors(self):
        check_calls(self, agree, ("row", "row"))


class CoupleTest(unittest.TestCase):
    def test_small_cases(self):
        self.assertEqual(couple_failing(mix_table(), (5, 5)), (0, 1))
        self.assertIsNone(couple_failing(mix_table(), (3, 6)))
        self.assertEqual(couple_failing(mix_table(), [2, 9]), (0,))
        self.assertEqual(couple_failing(Table([(1, 2), (0, 0)]), (1, 0)), (1,))
        wide = Table([(1,) * 12, (1,) * 11 + (-1,)])
        self.assertEqual(couple_failing(wide, (1, 1)), (0, 11))
        self.assertIsNone(couple_failing(wide, (1, 2)))
        self.assertIsNone(couple_failing(Table.zeros(2, 12), (0, 0)))
        self.assertEqual(couple_failing(Table([(10 ** 30, 1), (0, 1)]), (10 ** 30 - 1, 9)), (0,))

    def test_against_all_parts(self):
        for table in some_tables(150, 335, (2, 2), (1, 5), 3):
            for tolls in all_tolls(2, 5):
                failing = plain_failing(table, tolls)
                small = [part for part in failing if len(part) <= 2]
                self.assertEqual(couple_failing(table, tolls), small[0] if small else None)
                self.assertEqual(bool(small), bool(failing))

    def test_no_negative_numbers(self):
        for rows in itertools.product(itertools.product(range(4), repeat=3), repeat=2):
            greatest = tuple(max(row) for row in rows)
            self.assertIsNone(couple_failing(Table(rows), greatest))
            for i in range(2):
                if greatest[i]:
                    less = [h - (k == i) for k, h in enumerate(greatest)]
                    self.assertIsNotNone(couple_failing(Table(rows), less))

    def test_least_tolls_are_stairs(self):
        looked_at = 0
        for table in some_tables(80, 336, (2, 2), (1, 5), 3):
            if any(table[0]) and any(table[1]):
                looked_at += 1
                stairs = stairs_of(Table.zeros(0, table.columns), table[0], table[1])
                self.assertEqual(least_tolls(table), stairs)
        self.assertTrue(looked_at > 60)

    def test_errors(self):
        for height in (0, 1, 3, 12):
            self.assertEqual(error_of(couple_failing, Table.zeros(height, 3), None), ("NotFitting", "rows"))
        table = Table.zeros(2, 3)
        for wrong in WRONG_KINDS:
            self.assertEqual(error_of(couple_failing, table, wrong), ("BadTolls", -1))
        for wrong in WRONG_INTEGERS + (-1,):
            self.assertEqual(error_of(couple_failing, table, (1, wrong, None)), ("BadTolls", 1))
        for tolls in ((), (1,), [1, 1, 1]):
            self.assertEqual(error_of(couple_failing, table, tolls), ("OtherSize", 2))


class OneLooseRowTest(unittest.TestCase):
    def test_toll_of_row_and_lone_worth_are_equal(self):
        looked_at = 0
        for table in some_tables(60, 337, (0, 3), (1, 4), 2):
            for tolls in all_tolls(table.height, 3):
                if sum(1 for q in tolls if q > 1) <= 1 and serves(table, tolls):
                    looked_at += 1
                    for row in itertools.product((-2, 1, 3), repeat=table.columns):
                        self.assertEqual(toll_of_row(table, tolls, row), lone_worth(table, tolls, row))
        self.assertTrue(looked_at > 100, looked_at)


class ToldTablesTest(unittest.TestCase):
    def test_rows(self):
        self.assertEqual(three_columns(), Table([(2, 2, 2, 0), (-2, 4, -2, 1), (-2, -2, 4, -1)]))
        self.assertEqual(three_halves(), Table([(2, 0), (0, 2), (2, 2)]))
        self.assertEqual(nine_table(), Table([(1, 1, 1), (-1, 2, -1), (-1, -1, 2)]))
        self.assertEqual(mix_table(), Table([(3, 3), (3, -3)]))

    def test_columns_and_lone_splits(self):
        table = three_columns()
        for columns in itertools.combinations(range(4), 3):
            self.assertTrue(serves(table.lot((0, 1, 2), columns), (4, 4, 4)))
        self.assertEqual(failing_part(table, (4, 4, 4)), (0, 1, 2, 3))
        above = table.without_row(2)
        self.assertTrue(serves(above, (4, 4)))
        self.assertTrue(all(worth(table[2], x) <= 4 for x in lone_splits(above, (4, 4))))
        self.assertEqual(lone_worth(above, (4, 4), table[2]), 4)
        self.assertEqual(toll_of_row(above, (4, 4), table[2]), 5)

    def test_halves_and_determinants(self):
        table = three_halves()
        self.assertTrue(serves(table, (2, 2, 2)))
        shares = [(1, 3), (1, 3)]
        for z in all_of(2, (0, 1)):
            self.assertGreaterEqual(max(map(abs, plain_miss(table, shares, z))), Fraction(4, 3))
        z = near_rounding(table, (2, 2, 2), shares)
        self.assertEqual(near_quotient(table, (2, 2, 2), shares, z), (2, 3))
        self.assertEqual(near_bound((2, 2, 2)), (3, 4))
        self.assertTrue(serves(nine_table(), (2, 2, 2)))
        self.assertEqual(plain_determinant(nine_table().rows), 9)

    def test_mixes_need_less_than_splits(self):
        table = mix_table()
        self.assertEqual(least_tolls(table), [(3, 6), (6, 3)])
        self.assertFalse(serves(table, (5, 5)))
        for bottom in range(1, 14):
            for shares in itertools.product([told(Fraction(top, bottom)) for top in range(bottom + 1)], repeat=2):
                near = plain_within(table, (5, 5), shares)
                answer = solve([(1,) + z for z in near], Numbers.of_ratios((1,) + shares), [0] * len(near))
                self.assertEqual(answer[0], "best", shares)
        self.assertEqual(len(plain_within(table, (5, 5), fractions_of([(1, 2), (1, 2)]))), 4)


if __name__ == "__main__":
    unittest.main()
