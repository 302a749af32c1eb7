"""Shares as means of shares whose broken columns are independent."""

import unittest
from fractions import Fraction

from makers import WRONG_KINDS, error_of, long_numbers, serving_tolls, some_tables
from rounders import fractions_of, plain_firm, plain_miss, plain_quotient, plain_roundings, some_shares, told
from splitnumbers.numbers import Numbers
from splitnumbers.ranks import is_independent
from splitnumbers.spreading import spread
from splitnumbers.tables import Table


def broken(row):
    return [j for j, share in enumerate(row) if 0 < share < 1]


class SpreadTest(unittest.TestCase):
    def check(self, table, shares):
        found = spread(table, shares)
        self.assertIs(type(found), list)
        w = fractions_of(shares)
        rows = []
        for entry in found:
            self.assertIs(type(entry), tuple)
            row, weight = entry
            self.assertIsInstance(row, Numbers)
            self.assertGreater(weight[0], 0)
            self.assertEqual(weight, told(Fraction(*weight)))
            x = [Fraction(*ratio) for ratio in row]
            rows.append(x)
            self.assertTrue(all(0 <= a <= 1 for a in x))
            self.assertTrue(all(a == b for a, b in zip(x, w) if b in (0, 1)))
            self.assertEqual(plain_miss(table, shares, x), [0] * table.height)
            self.assertTrue(is_independent(table, broken(x)))
        weights = [Fraction(*weight) for _, weight in found]
        self.assertEqual(sum(weights), 1)
        means = [sum(part * x[j] for part, x in zip(weights, rows)) for j in range(table.columns)]
        self.assertEqual(means, w)
        self.assertTrue(all(x < y for x, y in zip(rows, rows[1:])), rows)
        return found

    def test_small_cases(self):
        third = [(1, 3), (2, 3)]
        self.assertEqual(spread(Table.unit(2), third), [(Numbers([1, 2], 3), (1, 1))])
        self.assertEqual(spread(Table([(1, 1)]), third), [(Numbers([0, 1]), (2, 3)), (Numbers([1, 0]), (1, 3))])
        self.assertEqual(spread(Table.zeros(0, 1), [(1, 3)]), [(Numbers([0]), (2, 3)), (Numbers([1]), (1, 3))])
        self.assertEqual(spread(Table.zeros(2, 2), (0, 1)), [(Numbers([0, 1]), (1, 1))])
        self.assertEqual(spread(Table([(1, 1)]), Numbers([1, 2], 3)), spread(Table([(1, 1)]), third))

    def test_many_tables(self):
        for k, table in enumerate(some_tables(150, 101, (0, 4), (1, 6), 3)):
            for bottom in (2, 3, 7, 12):
                shares = some_shares(table.columns, 5 * k + bottom, bottom)
                self.assertEqual(self.check(table, shares), spread(table, shares))

    def test_sums_that_repeat(self):
        for rows in ([(1, 1, 1, 1, 1, 1)], [(1, 1, 1, 0, 0, 0), (0, 0, 0, 1, 1, 1)], [(1, 2, 3, 4, 5, 6)],
                     [(0, 0, 0, 0, 0, 0)], [(1, -1, 1, -1, 1, -1), (1, 1, 1, 1, 1, 1)]):
            for bottom in (2, 3, 11):
                self.check(Table(rows), [(1 + k % (bottom - 1), bottom) for k in range(6)])

    def test_long_numbers(self):
        for k in range(4):
            numbers = long_numbers(21, k)
            table = Table([numbers[:7], numbers[7:14], numbers[14:]])
            tops = [abs(top) for top in long_numbers(7, k + 9, 10 ** 11)]
            self.check(table, [(top + j, 10 ** 12 - j) for j, top in enumerate(tops)])

    def test_seven_and_eight_broken_shares(self):
        wide = Table([(1,) * 12, (2,) * 12])
        shares = [(1, 2)] * 7 + [0, 1, 0, 1, 1]
        self.check(wide, shares)
        self.assertEqual(error_of(spread, wide, [(1, 2)] * 8 + [0] * 4), ("TooMany", 7))

    def test_roundings_have_the_same_miss(self):
        for k, table in enumerate(some_tables(60, 102, (1, 3), (1, 4), 2)):
            q = serving_tolls(table)
            loose = [i for i, toll in enumerate(q) if toll > 1]
            for bottom in (2, 5):
                shares = some_shares(table.columns, k, bottom)
                least = min(plain_quotient(table, q, shares, z, loose) for z in plain_firm(table, q, shares))
                for row, _ in spread(table, shares):
                    theirs = list(row)
                    self.assertTrue(set(plain_roundings(theirs)) <= set(plain_roundings(shares)))
                    for z in plain_roundings(theirs):
                        self.assertEqual(plain_miss(table, theirs, z), plain_miss(table, shares, z))
                    worst = min(plain_quotient(table, q, theirs, z, loose) for z in plain_firm(table, q, theirs))
                    self.assertLessEqual(least, worst)

    def test_errors(self):
        wide = Table.zeros(1, 9)
        for wrong in WRONG_KINDS:
            self.assertEqual(error_of(spread, wide, wrong), ("BadShares", -1))
        self.assertEqual(error_of(spread, wide, [(1, 2), (3, 2)]), ("BadShares", 1))
        self.assertEqual(error_of(spread, wide, [(1, 2), 0, True]), ("BadShares", 2))
        self.assertEqual(error_of(spread, wide, Numbers([1, -1], 2)), ("BadShares", 1))
        self.assertEqual(error_of(spread, wide, [(1, 2)] * 8), ("OtherSize", 9))
        self.assertEqual(error_of(spread, wide, [(1, 2)] * 9), ("TooMany", 7))

    def test_what_is_handed_in_and_back(self):
        shares = [[1, 2], [1, 2]]
        table = Table([(1, 1)])
        found = spread(table, shares)
        again = list(found)
        found.clear()
        self.assertEqual(spread(table, shares), again)
        self.assertEqual(shares, [[1, 2], [1, 2]])


if __name__ == "__main__":
    unittest.main()
