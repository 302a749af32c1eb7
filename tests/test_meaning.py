"""Mixes with the shares as means, cheap roundings."""

import itertools
import unittest
from fractions import Fraction

from makers import WRONG_KINDS, error_of, serving_tolls, some_numbers, some_tables
from rounders import fractions_of, plain_miss, plain_within, some_shares
from splitnumbers.meaning import cheap_within, means_mix
from splitnumbers.mixes import RoundingMix
from splitnumbers.numbers import Numbers
from splitnumbers.tables import Table

T = Table([(1, 1), (1, -1)])
HALF = [(1, 2), (1, 2)]


class MeansMixTest(unittest.TestCase):
    def check(self, table, q, shares):
        mix = means_mix(table, q, shares)
        self.assertIs(type(mix), RoundingMix)
        self.assertEqual(mix.means(), Numbers.of_ratios(shares))
        within = plain_within(table, q, shares)
        self.assertTrue(all(z in within for z, _ in mix))
        for i, row in enumerate(table.rows):
            squares = [Fraction(*weight) * plain_miss(table, shares, z)[i] ** 2 for z, weight in mix]
            self.assertLessEqual(3 * sum(squares), q[i] ** 2)
            if q[i] == 1:
                total = sum(a * w for a, w in zip(row, fractions_of(shares)))
                self.assertEqual(sum(squares), (total - total.__floor__()) * (total.__ceil__() - total))
        return mix

    def test_small_cases(self):
        self.assertEqual(means_mix(T, (2, 1), HALF).entries, (((0, 0), (1, 2)), ((1, 1), (1, 2))))
        self.assertEqual(means_mix(T, (1, 2), HALF).entries, (((0, 1), (1, 2)), ((1, 0), (1, 2))))
        self.assertEqual(means_mix(T, (2, 2), [0, 1]).entries, (((0, 1), (1, 1)),))
        self.check(Table.zeros(0, 3), (), [(1, 3), (1, 5), 1])
        self.check(Table([(2, 2, 2, 0), (-2, 4, -2, 1), (-2, -2, 4, -1)]), (6, 6, 6), [(1, 2)] * 4)

    def test_many_tables(self):
        for k, table in enumerate(some_tables(60, 71, (0, 4), (1, 5), 3)):
            q = serving_tolls(table, 1)
            for bottom in (2, 3, 7, 97):
                self.check(table, q, some_shares(table.columns, k + bottom, bottom))

    def test_five_columns_and_twelve_rows(self):
        rows = [some_numbers(5, 13 * k, -3, 3) for k in range(12)]
        table = Table(rows)
        self.check(table, tuple(sum(map(abs, row)) or 1 for row in rows), some_shares(5, 2, 101))

    def test_halves_where_mean_squares_are_tight(self):
        # Between all roundings of these shares only few mixes keep the mean squares small.
        for table in some_tables(40, 72, (2, 3), (3, 4), 2):
            q = serving_tolls(table, 1)
            for shares in itertools.product(((1, 2), (1, 4), (3, 4)), repeat=table.columns):
                self.check(table, q, list(shares))

    def test_errors(self):
        wide = Table.zeros(2, 6)
        for wrong in WRONG_KINDS:
            self.assertEqual(error_of(means_mix, wide, wrong, None), ("BadTolls", -1))
            self.assertEqual(error_of(means_mix, wide, (0, 0), wrong), ("BadShares", -1))
        self.assertEqual(error_of(means_mix, wide, (0,), None), ("OtherSize", 2))
        self.assertEqual(error_of(means_mix, wide, (0, 0), [0, 2]), ("BadShares", 1))
        self.assertEqual(error_of(means_mix, wide, (0, 0), [0]), ("OtherSize", 6))
        self.assertEqual(error_of(means_mix, wide, (0, 1), [0] * 6), ("NotMet", "tolls"))
        self.assertEqual(error_of(means_mix, wide, (1, 1), [0] * 6), ("TooMany", 5))
        self.assertEqual(error_of(means_mix, T, (0, 1), HALF), ("NotMet", "tolls"))
        self.assertEqual(error_of(means_mix, T, (1, 1), HALF), ("NotServing", (0, 1)))


class CheapTest(unittest.TestCase):
    def test_small_cases(self):
        self.assertEqual(cheap_within(T, (2, 1), (1, 1), HALF), (0, 0))
        self.assertEqual(cheap_within(T, (2, 1), (-1, -1), HALF), (1, 1))
        self.assertEqual(cheap_within(T, (2, 1), [0, 0], HALF), (0, 0))
        self.assertEqual(cheap_within(T, (1, 2), Numbers([-3, 2]), HALF), (1, 0))

    def test_against_all_roundings(self):
        for k, table in enumerate(some_tables(60, 73, (0, 4), (1, 5), 3)):
            q = serving_tolls(table, 1)
            prices = some_numbers(table.columns, k, -4, 4)
            for bottom in (2, 5):
                shares = some_shares(table.columns, k + bottom, bottom)
                within = plain_within(table, q, shares)
                costs = [sum(a * b for a, b in zip(prices, z)) for z in within]
                z = cheap_within(table, q, prices, shares)
                self.assertEqual(z, within[costs.index(min(costs))])
                self.assertLessEqual(min(costs), sum(p * w for p, w in zip(prices, fractions_of(shares))))

    def test_seven_columns(self):
        self.assertEqual(cheap_within(Table.chain(7), (1,) * 6, (1,) * 7, [(1, 2)] * 7), (0,) * 7)
        self.assertEqual(cheap_within(Table.chain(7), (1,) * 6, (-1,) * 7, [(1, 2)] * 7), (1,) * 7)

    def test_errors(self):
        wide = Table.zeros(2, 8)
        for wrong in WRONG_KINDS:
            self.assertEqual(error_of(cheap_within, wide, wrong, None, None), ("BadTolls", -1))
            self.assertEqual(error_of(cheap_within, wide, (0, 0), wrong, None), ("BadNumbers", -1))
            self.assertEqual(error_of(cheap_within, wide, (0, 0), (1,) * 8, wrong), ("BadShares", -1))
        self.assertEqual(error_of(cheap_within, wide, (0,), None, None), ("OtherSize", 2))
        self.assertEqual(error_of(cheap_within, wide, (0, 0), [1, (1, 2)], None), ("BadNumbers", 1))
        self.assertEqual(error_of(cheap_within, wide, (0, 0), Numbers([1] * 8, 2), None), ("BadNumbers", -1))
        self.assertEqual(error_of(cheap_within, wide, (0, 0), [1], None), ("OtherSize", 8))
        self.assertEqual(error_of(cheap_within, wide, (0, 0), [1] * 8, [2]), ("BadShares", 0))
        self.assertEqual(error_of(cheap_within, wide, (0, 0), [1] * 8, [1]), ("OtherSize", 8))
        self.assertEqual(error_of(cheap_within, wide, (0, 0), [1] * 8, [1] * 8), ("NotMet", "tolls"))
        self.assertEqual(error_of(cheap_within, wide, (1, 1), [1] * 8, [1] * 8), ("TooMany", 7))
        self.assertEqual(error_of(cheap_within, T, (1, 1), [1, 1], HALF), ("NotServing", (0, 1)))
        self.assertEqual(error_of(cheap_within, T, (0, 0), [1, 1], HALF), ("NotMet", "tolls"))


if __name__ == "__main__":
    unittest.main()
