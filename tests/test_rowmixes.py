"""Mixes with small misses at one row, and the least spread."""

import unittest
from fractions import Fraction

from callers import check_calls
from firmers import firm_tables, ones
from makers import long_numbers, some_numbers
from rounders import fractions_of, plain_firm, some_shares, told
from splitnumbers.abouts import about
from splitnumbers.lonetolls import lone_of_toll, lone_toll
from splitnumbers.mixes import RoundingMix
from splitnumbers.numbers import Numbers
from splitnumbers.rowmixes import least_spread, row_mix, step_mix
from splitnumbers.solving import solve
from splitnumbers.steps import steps_of
from splitnumbers.tables import Table

FIRM = list(firm_tables(40, 261, (0, 4), (1, 5)))


def dot(row, x):
    return sum(a * b for a, b in zip(row, x))


def cases(tables, seed, greatest=5, bottoms=(2, 3, 7)):
    for k, table in enumerate(tables):
        row = tuple(some_numbers(table.columns, seed + k, -greatest, greatest))
        for bottom in bottoms:
            yield table, row, some_shares(table.columns, seed + 3 * k + bottom, bottom)
        if k % 4 == 0:
            yield table, (0,) * table.columns, some_shares(table.columns, seed + k, 5)


class RowMixTest(unittest.TestCase):
    def check(self, table, row, shares):
        mix = row_mix(table, row, shares)
        self.assertIs(type(mix), RoundingMix)
        w = fractions_of(shares)
        h = lone_toll(table, row)
        self.assertEqual([Fraction(*share) for share in mix.means()], w)
        firm = plain_firm(table, ones(table), shares)
        for z, _ in mix:
            self.assertIn(z, firm)
            size = abs(dot(row, z) - dot(row, w))
            self.assertTrue(size < h or size == 0)
        square = mix.mean_square(row, told(Fraction(dot(row, w))))
        self.assertLessEqual(Fraction(*square), Fraction(h * h, 4))
        self.assertEqual(row_mix(table, row, shares), mix)

    def test_small_cases(self):
        table = Table([(1, 1)])
        half = [(1, 2), (1, 2)]
        self.assertEqual(row_mix(table, (3, -1), half).entries, (((0, 1), (1, 2)), ((1, 0), (1, 2))))
        self.assertEqual(row_mix(Table.zeros(0, 1), (5,), [(1, 3)]).entries, (((0,), (2, 3)), ((1,), (1, 3))))
        self.assertEqual(row_mix(Table.zeros(0, 1), [0], Numbers([1], 3)).entries, (((0,), (2, 3)), ((1,), (1, 3))))
        self.assertEqual(row_mix(Table.zeros(0, 2), (5, 5), (1, 0)).entries, (((1, 0), (1, 1)),))

    def test_many_rows(self):
        for table, row, shares in cases(FIRM, 262):
            self.check(table, row, shares)

    def test_shares_that_need_the_square(self):
        # Each z and w between two firm roundings has this one mix alone.
        for table, row, _ in cases(FIRM, 263, bottoms=(2,)):
            d = lone_of_toll(table, row)
            z = [int(a == -1) for a in d]
            toll = lone_toll(table, row)
            for t in (Fraction(1, 2), Fraction(1, 5), Fraction(11, 12)):
                w = [told(a + t * b) for a, b in zip(z, d)]
                self.check(table, row, w)
                mix = row_mix(table, row, w)
                expected = [(tuple(z), told(1 - t)), (tuple(a + b for a, b in zip(z, d)), told(t))]
                self.assertEqual(list(mix), sorted(expected))
                misses = [abs(dot(row, y) - dot(row, fractions_of(w))) for y, _ in expected]
                self.assertEqual(misses, [t * toll, (1 - t) * toll])
                if t == Fraction(1, 2):
                    square = mix.mean_square(row, told(Fraction(dot(row, fractions_of(w)))))
                    self.assertEqual(square, told(Fraction(toll * toll, 4)))

    def test_seven_columns_and_long_numbers(self):
        for table in (Table.zeros(0, 7), Table.chain(7), Table([(1,) * 7]), Table.zeros(12, 7)):
            for seed in range(2):
                row = long_numbers(7, seed)
                self.check(table, row, [(abs(top), 10 ** 12 - seed) for top in long_numbers(7, seed + 9, 10 ** 11)])
                self.check(table, some_numbers(7, seed, -3, 3), [(1, 2), (1, 3), (2, 3), (1, 2), (1, 5), (4, 5), (1, 2)])

    def test_errors(self):
        for call in (row_mix, step_mix, least_spread):
            check_calls(self, call, ("row", "shares"))


class SpreadTest(unittest.TestCase):
    def test_small_cases(self):
        table = Table([(1, 1, 1)])
        shares = [(1, 2), (1, 2), 0]
        mix = step_mix(table, (2, -1, 0), shares)
        self.assertIs(type(mix), RoundingMix)
        self.assertEqual(mix.entries, (((0, 1, 0), (1, 2)), ((1, 0, 0), (1, 2))))
        self.assertEqual(least_spread(table, (2, -1, 0), shares), (9, 4))
        self.assertEqual(step_mix(table, (1, 1, 1), shares).entries, (((0, 1, 0), (1, 1)),))
        self.assertEqual(least_spread(table, (1, 1, 1), shares), (0, 1))
        # The means of the step mix need not be the shares.
        self.assertEqual(step_mix(Table.zeros(0, 2), (2, 1), [(1, 4), (1, 2)]).entries, (((0, 1), (1, 1)),))

    def test_step_mix(self):
        for table, row, shares in cases(FIRM, 264):
            mix = step_mix(table, row, shares)
            middle = Fraction(dot(row, fractions_of(shares)))
            z, y = about(table, row, shares)
            self.assertEqual([x for x, _ in mix], sorted({z, y}))
            self.assertEqual(mix.mean_at(row), told(middle))
            h = lone_toll(table, row)
            square = Fraction(*mix.mean_square(row, told(middle)))
            self.assertEqual(square, (middle - dot(row, z)) * (dot(row, y) - middle))
            self.assertLessEqual(square, Fraction(h * h, 4))

    def test_mixes_of_all_steps(self):
        for table, row, shares in cases(FIRM[:25], 265):
            middle = Fraction(dot(row, fractions_of(shares)))
            h = lone_toll(table, row)
            for step in steps_of(table, shares):
                low, high = sorted(dot(row, z) for z in step)
                if low < middle < high:
                    self.assertLessEqual((middle - low) * (high - middle), Fraction(h * h, 4))

    def test_least_spread(self):
        for table, row, shares in cases(FIRM, 266):
            middle = Fraction(dot(row, fractions_of(shares)))
            firm = plain_firm(table, ones(table), shares)
            low = max(dot(row, z) for z in firm if dot(row, z) <= middle)
            high = min(dot(row, z) for z in firm if dot(row, z) >= middle)
            spread = least_spread(table, row, shares)
            self.assertEqual(spread, told((middle - low) * (high - middle)))
            # The least mean square of all mixes that keep the row, by solving.
            bottom = middle.denominator
            columns = [(1, dot(row, z) * bottom - middle.numerator) for z in firm]
            total = solve(columns, (1, 0), [-gap * gap for _, gap in columns])[1]
            self.assertEqual(Fraction(*spread), Fraction(-total[0], total[1] * bottom * bottom))
            square = step_mix(table, row, shares).mean_square(row, told(middle))
            self.assertLessEqual(Fraction(*spread), Fraction(*square))

    def test_spread_of_halves(self):
        for table, row, _ in cases(FIRM, 267, bottoms=(2,)):
            w = [(abs(a), 2) for a in lone_of_toll(table, row)]
            self.assertEqual(least_spread(table, row, w), told(Fraction(lone_toll(table, row) ** 2, 4)))


if __name__ == "__main__":
    unittest.main()
