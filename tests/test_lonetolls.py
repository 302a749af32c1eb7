"""The toll of a row over a firm table: by parts, lone splits, determinants, split sums, roundings, prices and mixes."""

import itertools
import unittest
from fractions import Fraction

from callers import check_calls
from firmers import (firm_tables, negative, ones, plain_determinant, plain_firm_table, plain_lones, plain_squares)
from makers import (error_of, long_numbers, plain_failing, plain_parts, plain_splits, plain_sums, some_numbers,
                    some_tables)
from rounders import plain_firm, plain_miss, some_shares
from splitnumbers.abouts import half_rounding
from splitnumbers.growing import grown_lones, rows_that_go_in
from splitnumbers.lones import lone_splits, toll_of_row
from splitnumbers.lonesums import firm_lones
from splitnumbers.lonetolls import lone_of_toll, lone_toll, square_of_toll, toll_gain
from splitnumbers.nearest import near_on, near_quotient, near_rounding
from splitnumbers.numbers import Numbers
from splitnumbers.pivoting import pivoted
from splitnumbers.rests import close_rest
from splitnumbers.rowmixes import row_mix
from splitnumbers.tables import Table
from splitnumbers.tolls import serves

FIRM = list(firm_tables(40, 221, (0, 4), (1, 5)))


def dot(row, x):
    return sum(a * b for a, b in zip(row, x))


def cases(tables, seed, greatest=5):
    for k, table in enumerate(tables):
        yield table, tuple(some_numbers(table.columns, seed + k, -greatest, greatest))


def plain_toll(table, row):
    """The least h so that no part fails."""
    return max(min(abs(dot(row, x)) for x in plain_splits(table, ones(table), part))
               for part in plain_parts(table.columns)[1:])


class LoneTollTest(unittest.TestCase):
    def test_small_cases(self):
        table = Table([(1, 1, 1)])
        row = (2, -1, 0)
        self.assertEqual((lone_toll(table, row), lone_of_toll(table, row)), (3, (1, -1, 0)))
        self.assertEqual(square_of_toll(table, row), ((0, 1), (0, 1), -3))
        self.assertEqual(lone_toll(table, Numbers([0, 0, 0])), 0)
        self.assertEqual(lone_of_toll(table, [0, 0, 0]), (0, 0, 1))
        self.assertIsNone(square_of_toll(table, (0, 0, 0)))
        self.assertEqual(lone_toll(Table.zeros(0, 3), (4, -9, 9)), 9)
        self.assertEqual(lone_of_toll(Table.zeros(0, 3), (4, -9, 9)), (0, 0, 1))
        self.assertEqual(square_of_toll(Table.zeros(0, 3), (4, -9, 9)), ((0,), (1,), -9))
        self.assertEqual((lone_toll(Table.unit(1), (-7,)), square_of_toll(Table.unit(1), (-7,))), (7, ((1,), (0,), -7)))

    def test_against_parts_and_lone_splits(self):
        for table, row in cases(FIRM, 222):
            h = lone_toll(table, row)
            lones = plain_lones(table)
            self.assertEqual(h, plain_toll(table, row))
            self.assertEqual(h, max(abs(dot(row, x)) for x in lones))
            self.assertEqual(h, toll_of_row(table, ones(table), row))
            self.assertEqual(lone_of_toll(table, row), next(x for x in lones if abs(dot(row, x)) == h))
            self.assertTrue(all(h >= abs(a) for a in row))
            self.assertEqual(h == 0, not any(row))
            for k in range(1, h + 2):
                self.assertEqual(serves(table.with_row(row), ones(table) + (k,)), k >= h)

    def test_determinants(self):
        for table, row in cases(FIRM, 223):
            below = table.with_row(row)
            m = table.height
            h = lone_toll(table, row)
            lones = plain_lones(table)
            squares = plain_squares(below)
            used = [part for part in squares if m in part[0]]
            self.assertTrue(all(abs(part[2]) <= 1 for part in squares if m not in part[0]))
            self.assertEqual(max(abs(part[2]) for part in used), h)
            first = next(part for part in used if abs(part[2]) == h)
            self.assertEqual(square_of_toll(table, row), first if h else None)
            for _, columns, number in used:
                sums = [abs(dot(row, x)) for x in lones if all(j in columns for j, a in enumerate(x) if a)]
                self.assertTrue(number == 0 or abs(number) in sums)
            for x in lones:
                part = tuple(j for j, a in enumerate(x) if a)
                self.assertIn(abs(dot(row, x)), [abs(number) for _, columns, number in used if columns == part])

    def test_rests_with_the_row_below(self):
        looked_at = 0
        for table, row in cases(list(firm_tables(120, 224, (0, 4), (1, 5))), 224):
            if table.height + 1 == table.columns and plain_determinant(table.rows + (row,)):
                looked_at += 1
                h = lone_toll(table, row)
                below = table.with_row(row)
                for seed in range(4):
                    target = some_numbers(below.height, seed, -30, 30)
                    multipliers, rest = close_rest(below, ones(table) + (h,), target)
                    self.assertEqual([a + b for a, b in zip(below(multipliers), rest)], target)
                    self.assertTrue(rest[:-1] == (0,) * table.height and 0 <= rest[-1] < h)
        self.assertTrue(looked_at > 10)

    def test_sums_and_multiples(self):
        for table, row in cases(FIRM, 225):
            h = lone_toll(table, row)
            other = some_numbers(table.columns, 9, -5, 5)
            self.assertLessEqual(lone_toll(table, [a + b for a, b in zip(row, other)]), h + lone_toll(table, other))
            for t in (-3, -1, 0, 4, 10 ** 30):
                self.assertEqual(lone_toll(table, [t * a for a in row]), abs(t) * h)
                for j in range(table.columns):
                    changed = row[:j] + (row[j] + t,) + row[j + 1:]
                    self.assertLessEqual(abs(lone_toll(table, changed) - h), abs(t))
            small = [(a > 1) - (a < -1) for a in row]
            self.assertLessEqual(lone_toll(table, small), min(sum(map(abs, small)), table.height + 1))

    def test_sums_of_rows_that_go_in(self):
        for table in FIRM[:15]:
            fitting = rows_that_go_in(table)
            for k, steps in enumerate((3, 5, 7, 11), 2):
                for start in range(3):
                    chosen = [fitting[(start + steps * i) % len(fitting)] for i in range(k)]
                    self.assertLessEqual(lone_toll(table, [sum(numbers) for numbers in zip(*chosen)]), k)

    def test_chains(self):
        for k in range(1, 8):
            for zeros in range(8 - k):
                table = Table.chain(k)
                row = (1,) * k
                for at in range(zeros):
                    table = table.with_column((0,) * (k - 1), 2 * at % table.columns)
                    row = row[:2 * at % len(row)] + (0,) + row[2 * at % len(row):]
                self.assertEqual(lone_toll(table, row), k)

    def test_twelve_rows(self):
        table = Table.chain(7) & Table.unit(7).lot(range_list(6), range_list(7))
        self.assertEqual(table.height, 12)
        row = tuple(long_numbers(7, 1))
        lones = firm_lones(table)
        h = lone_toll(table, row)
        self.assertEqual(h, max(abs(dot(row, x)) for x in lones))
        rows, columns, number = square_of_toll(table, row)
        self.assertEqual(abs(number), h)
        self.assertEqual(rows[-1], 12)
        self.assertEqual(number, plain_determinant([tuple((table.rows + (row,))[i][j] for j in columns) for i in rows]))
        self.assertEqual(toll_gain(table, (0,) * 6 + (1,), row), 0)
        self.assertEqual(toll_gain(Table.zeros(12, 3), (1, 1, 0), (5, -6, 2)), 5)

    def test_errors(self):
        for call in (lone_toll, lone_of_toll, square_of_toll):
            check_calls(self, call, ("row",))
        check_calls(self, toll_gain, ("row", "row"))
        self.assertEqual(error_of(toll_gain, Table([(1, 1)]), (1, -1), (5, 5)), ("NotFitting", "row"))
        self.assertEqual(error_of(toll_gain, Table([(1, 1)]), (0, 2), (5, 5)), ("NotFitting", "row"))
        self.assertEqual(error_of(toll_gain, Table([(1, 2)]), (0, 2), (5, 5)), ("NotFirm", (1,)))


class RowPutInTest(unittest.TestCase):
    def test_toll_gain(self):
        gains = set()
        for table, row in cases(FIRM[:20], 226):
            h = lone_toll(table, row)
            for firm_row in rows_that_go_in(table)[::3]:
                larger = table.with_row(firm_row)
                gain = toll_gain(table, firm_row, row)
                gains.add(gain)
                self.assertEqual(gain, lone_toll(larger, row) - h)
                self.assertTrue(0 <= gain <= h)
                self.assertEqual(h + gain, max(abs(dot(row, x)) for x in grown_lones(table, firm_row)))
        self.assertTrue(len(gains) > 3)

    def test_pivots_never_raise_the_toll(self):
        looked_at = 0
        for table, row in cases(list(firm_tables(60, 227, (1, 4), (2, 5))), 227):
            below = table.with_row(row)
            lones = plain_lones(table)
            for i, j in itertools.product(range(table.height), range(table.columns)):
                if abs(table[i][j]) == 1:
                    looked_at += 1
                    small = pivoted(table, i, j)
                    self.assertLessEqual(lone_toll(small, pivoted(below, i, j).rows[-1]), lone_toll(table, row))
                    for x in firm_lones(small):
                        larger = [x[:j] + (a,) + x[j:] for a in (-1, 0, 1)]
                        self.assertTrue(any((y in lones or negative(y) in lones) and plain_sums(table, y)[i] == 0
                                            for y in larger))
        self.assertTrue(looked_at > 100)
        self.assertIn((0, 1, -1), firm_lones(Table([(1, 1, 1)])))
        self.assertNotIn((1, -1), firm_lones(pivoted(Table([(1, 1, 1)]), 0, 0)))


class FiveWaysTest(unittest.TestCase):
    def test_five_ways(self):
        for table, row in cases(FIRM[:25], 228, 4):
            lones = plain_lones(table)
            toll = lone_toll(table, row)
            used = [abs(part[2]) for part in plain_squares(table.with_row(row)) if table.height in part[0]]
            for h in range(1, toll + 2):
                holds = h >= toll
                self.assertEqual(plain_failing(table.with_row(row), ones(table) + (h,)) == [], holds)
                self.assertEqual(all(abs(dot(row, x)) <= h for x in lones), holds)
                self.assertEqual(all(number <= h for number in used), holds)
                self.assertEqual(all(self.rounds_within(table, row, w, Fraction(h, 2)) for w in self.halves(table)), holds)
                if not holds:
                    self.check_no_mix(table, row, h)
            for bottom in (3, 5):
                shares = some_shares(table.columns, toll + bottom, bottom)
                misses = [plain_miss(table.with_row(row), shares, z)[-1] for z, _ in row_mix(table, row, shares)]
                self.assertTrue(all(abs(a) < max(toll, 1) for a in misses))

    def halves(self, table):
        return itertools.product((0, 1, (1, 2)), repeat=table.columns)

    def rounds_within(self, table, row, w, bound):
        below = table.with_row(row)
        return any(abs(plain_miss(below, w, z)[-1]) <= bound for z in plain_firm(table, ones(table), w))

    def check_no_mix(self, table, row, h):
        # Between z and z + d there is no other firm rounding, and the miss of z or of z + d is as great as one likes.
        d = lone_of_toll(table, row)
        toll = lone_toll(table, row)
        z = [int(a == -1) for a in d]
        t = Fraction(h, toll)
        w = [told(a + t * b) for a, b in zip(z, d)]
        firm = plain_firm(table, ones(table), w)
        self.assertEqual(sorted(firm), sorted([tuple(z), tuple(a + b for a, b in zip(z, d))]))
        self.assertTrue(any(abs(plain_miss(table.with_row(row), w, y)[-1]) >= h for y in firm))

    def test_among_other_tables(self):
        for table, row in cases(FIRM[:25], 229, 4):
            h = lone_toll(table, row)
            if h < 2:
                continue
            below = table.with_row(row)
            q = ones(table) + (h,)
            for bottom in (2, 3, 8):
                shares = some_shares(table.columns, bottom, bottom)
                z = half_rounding(table, row, shares)
                self.assertEqual(near_rounding(below, q, shares), z)
                quotient = Fraction(*near_quotient(below, q, shares, z))
                self.assertEqual(quotient, abs(plain_miss(below, shares, z)[-1]) / h)
                other = near_on(below, q, shares, (table.height,))
                self.assertEqual(Fraction(*near_quotient(below, q, shares, other)), quotient)

    def test_rows_that_go_in(self):
        for table in FIRM[:25]:
            low = [row for row in itertools.product((-1, 0, 1), repeat=table.columns) if lone_toll(table, row) <= 1]
            self.assertEqual(rows_that_go_in(table), low)
            self.assertTrue(all(plain_firm_table(table.with_row(row)) for row in low[::4]))

    def test_only_lone_splits_at_tolls_1(self):
        for table in some_tables(20, 230, (1, 3), (1, 3), 1):
            if plain_firm_table(table):
                self.assertEqual(firm_lones(table), lone_splits(table, ones(table)))


def range_list(count):
    return list(range(count))


def told(fraction):
    return (fraction.numerator, fraction.denominator)


if __name__ == "__main__":
    unittest.main()
