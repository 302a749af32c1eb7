"""Cuts, near quotients, near roundings, whole rows."""

import itertools
import unittest
from fractions import Fraction

from makers import WRONG_INTEGERS, WRONG_KINDS, error_of, plain_parts, serving_tolls, some_tables
from rounders import (plain_firm, plain_miss, plain_quotient, plain_roundings, plain_within, some_shares, told)
from splitnumbers.leasts import least_equal
from splitnumbers.nearest import cut_of, near_bound, near_on, near_quotient, near_rounding, whole_rows
from splitnumbers.numbers import Numbers
from splitnumbers.tables import Table

T = Table([(1, 1), (1, -1)])
HALF = [(1, 2), (1, 2)]


def cases(many, seed, least, heights=(0, 4), widths=(1, 4), greatest=3):
    """Tables with serving tolls and shares."""
    for k, table in enumerate(some_tables(many, seed, heights, widths, greatest)):
        q = serving_tolls(table, least)
        for bottom in (2, 3, 7):
            yield table, q, some_shares(table.columns, seed + k, bottom)


class CutTest(unittest.TestCase):
    def test_cut_of(self):
        self.assertEqual([cut_of(k) for k in range(9)], [0, 1, 2, 2, 3, 3, 3, 3, 4])
        for count in range(200):
            k = cut_of(count)
            self.assertTrue(2 ** k > count and (k == 0 or 2 ** (k - 1) <= count))
        for wrong in WRONG_INTEGERS + (-1,):
            self.assertEqual(error_of(cut_of, wrong), ("BadNumber", "count"))

    def test_near_bound(self):
        bounds = [near_bound([2] * loose + [0, 1]) for loose in range(5)]
        self.assertEqual(bounds, [(0, 1), (1, 2), (3, 4), (3, 4), (7, 8)])
        self.assertEqual(near_bound(()), (0, 1))
        self.assertEqual(near_bound([3] * 20), (31, 32))
        for wrong in WRONG_KINDS:
            self.assertEqual(error_of(near_bound, wrong), ("BadTolls", -1))
        self.assertEqual(error_of(near_bound, [1, -1]), ("BadTolls", 1))


class QuotientTest(unittest.TestCase):
    def test_small_cases(self):
        self.assertEqual(near_quotient(T, (2, 1), HALF, (0, 0)), (1, 2))
        self.assertEqual(near_quotient(T, (2, 1), HALF, (0, 1)), (0, 1))
        self.assertEqual(near_quotient(T, (1, 0), HALF, (0, 0)), (0, 1))
        self.assertEqual(near_quotient(T, (2, 3), HALF, [1, 0]), (1, 3))
        self.assertEqual(near_quotient(Table.zeros(0, 1), (), [1], [1]), (0, 1))

    def test_against_fractions(self):
        for table, q, shares in cases(40, 51, 0):
            rows = [i for i, toll in enumerate(q) if toll > 1]
            for z in plain_roundings(shares):
                self.assertEqual(near_quotient(table, q, shares, z), told(plain_quotient(table, q, shares, z, rows)))

    def test_errors(self):
        for wrong in WRONG_KINDS:
            self.assertEqual(error_of(near_quotient, T, wrong, None, None), ("BadTolls", -1))
            self.assertEqual(error_of(near_quotient, T, (1, 1), wrong, None), ("BadShares", -1))
            self.assertEqual(error_of(near_quotient, T, (1, 1), HALF, wrong), ("BadRounding", -1))
        self.assertEqual(error_of(near_quotient, T, (1,), None, None), ("OtherSize", 2))
        self.assertEqual(error_of(near_quotient, T, (1, 1), [1], None), ("OtherSize", 2))
        self.assertEqual(error_of(near_quotient, T, (1, 1), [1, 0], [1, 1]), ("BadRounding", 1))
        self.assertEqual(error_of(near_quotient, T, (1, 1), [1, 0], [1]), ("BadRounding", -1))
        self.assertIsNone(error_of(near_quotient, Table.zeros(0, 12), (), [(1, 2)] * 12, [0] * 12))


class NearRoundingTest(unittest.TestCase):
    def test_example(self):
        self.assertEqual(near_rounding(T, (2, 1), HALF), (0, 0))
        self.assertEqual(near_rounding(T, [2, 2], HALF), (0, 0))
        self.assertEqual(near_rounding(T, (1, 2), HALF), (0, 1))
        self.assertEqual(near_rounding(T, (9, 9), Numbers([1, 0])), (1, 0))

    def test_against_all_roundings(self):
        for table, q, shares in cases(60, 52, 0):
            rows = [i for i, toll in enumerate(q) if toll > 1]
            firm = plain_firm(table, q, shares)
            quotients = [plain_quotient(table, q, shares, z, rows) for z in firm]
            z = near_rounding(table, q, shares)
            self.assertEqual(z, firm[quotients.index(min(quotients))])
            self.assertLessEqual(min(quotients), Fraction(*near_bound(q)))

    def test_errors(self):
        wide = Table.zeros(2, 8)
        for call in (near_rounding, lambda table, tolls, shares: near_on(table, tolls, shares, ())):
            for wrong in WRONG_KINDS:
                self.assertEqual(error_of(call, wide, wrong, None), ("BadTolls", -1))
                self.assertEqual(error_of(call, wide, (1, 1), wrong), ("BadShares", -1))
            self.assertEqual(error_of(call, wide, (1,), None), ("OtherSize", 2))
            self.assertEqual(error_of(call, wide, (1, 1), [0, 2]), ("BadShares", 1))
            self.assertEqual(error_of(call, wide, (1, 1), [0]), ("OtherSize", 8))
            self.assertEqual(error_of(call, wide, (1, 1), [0] * 8), ("TooMany", 7))
            self.assertEqual(error_of(call, T, (1, 1), HALF), ("NotServing", (0, 1)))
            self.assertEqual(error_of(call, T, (1, 1), [0, 1]), ("NotServing", (0, 1)))
            self.assertIsNone(error_of(call, Table.chain(7), (1,) * 6, [(1, 2)] * 7))
        self.assertEqual(error_of(near_rounding, T, (0, 0), HALF), ("NotServing", (0,)))


class NearOnTest(unittest.TestCase):
    def test_small_cases(self):
        self.assertEqual(near_on(T, (2, 2), HALF, ()), (0, 0))
        self.assertEqual(near_on(T, (2, 2), HALF, [0]), (0, 1))
        self.assertEqual(near_on(T, (2, 2), HALF, [1]), (0, 0))
        self.assertEqual(near_on(T, (2, 2), HALF, [1, 0]), (0, 0))
        self.assertEqual(near_on(Table([(0, 0)]), (1,), HALF, [0]), (0, 0))

    def test_against_all_roundings(self):
        for table, q, shares in cases(40, 53, 1):
            for rows in plain_parts(table.height):
                within = plain_within(table, q, shares)
                quotients = [plain_quotient(table, q, shares, z, rows) for z in within]
                self.assertEqual(near_on(table, q, shares, rows[::-1]), within[quotients.index(min(quotients))])
                self.assertLessEqual(min(quotients), 1 - Fraction(1, 2 ** cut_of(len(rows))))

    def test_errors(self):
        wide = Table.zeros(2, 8)
        for wrong in WRONG_KINDS:
            self.assertEqual(error_of(near_on, wide, (0, 0), [0] * 8, wrong), ("BadSet", -1))
        self.assertEqual(error_of(near_on, wide, (0, 0), [0], None), ("OtherSize", 8))
        self.assertEqual(error_of(near_on, wide, (0, 0), [0] * 8, [0, 2]), ("BadSet", 1))
        self.assertEqual(error_of(near_on, wide, (1, 0), [0] * 8, [0, 0]), ("BadSet", 1))
        self.assertEqual(error_of(near_on, wide, (1, 0), [0] * 8, [0, 1]), ("NotMet", "tolls"))
        self.assertEqual(error_of(near_on, wide, (1, 1), [0] * 8, [0, 1]), ("TooMany", 7))
        self.assertEqual(error_of(near_on, T, (1, 0), HALF, []), ("NotMet", "tolls"))
        self.assertEqual(error_of(near_on, T, (1, 1), HALF, []), ("NotServing", (0, 1)))


class FactsTest(unittest.TestCase):
    def test_equal_tolls(self):
        for k, table in enumerate(some_tables(50, 54, (1, 4), (1, 4), 2)):
            h = least_equal(table)
            if h == 0:
                continue
            bound = (1 - Fraction(1, 2 ** cut_of(table.height))) * h
            for bottom in (2, 5, 8):
                shares = some_shares(table.columns, 9 * k, bottom)
                best = min(max(map(abs, plain_miss(table, shares, z))) for z in plain_roundings(shares))
                self.assertLessEqual(best, bound)
            worst = 0
            for shares in itertools.product((0, (1, 2)), repeat=table.columns):
                best = min(max(map(abs, plain_miss(table, shares, z))) for z in plain_roundings(shares))
                worst = max(worst, best)
            self.assertGreaterEqual(worst, Fraction(h, 2))

    def test_whole_rows(self):
        self.assertEqual(whole_rows(T, HALF), (0, 1))
        self.assertEqual(whole_rows(T, [(1, 3), (2, 3)]), (0,))
        self.assertEqual(whole_rows(T, [(1, 3), 0]), ())
        self.assertEqual(whole_rows(Table.zeros(0, 1), [1]), ())
        for table, q, shares in cases(60, 55, 1):
            rows = whole_rows(table, shares)
            sums = [Fraction(*ratio) for ratio in table.sums_of(Numbers.of_ratios(shares))]
            self.assertEqual(rows, tuple(i for i, total in enumerate(sums) if total.denominator == 1))
            for z in plain_within(table, q, shares):
                misses = plain_miss(table, shares, z)
                for i in rows:
                    self.assertTrue(misses[i].denominator == 1 and abs(misses[i]) <= q[i] - 1)

    def test_whole_rows_errors(self):
        for wrong in WRONG_KINDS:
            self.assertEqual(error_of(whole_rows, T, wrong), ("BadShares", -1))
        self.assertEqual(error_of(whole_rows, T, [0, 2]), ("BadShares", 1))
        self.assertEqual(error_of(whole_rows, T, [0, 1, 1]), ("OtherSize", 2))
        self.assertEqual(whole_rows(Table.zeros(12, 12), [(1, 3)] * 12), tuple(range(12)))

    def test_three_loose_rows_are_not_nearer(self):
        table = Table([(2, 0), (0, 2), (2, 2)])
        third = [(1, 3), (1, 3)]
        z = near_rounding(table, (2, 2, 2), third)
        self.assertEqual(near_quotient(table, (2, 2, 2), third, z), (2, 3))
        self.assertEqual(near_bound((2, 2, 2)), (3, 4))


if __name__ == "__main__":
    unittest.main()
