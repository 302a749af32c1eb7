"""Firm roundings about the shares at a row, and split sums."""

import unittest
from fractions import Fraction

from callers import check_calls
from firmers import firm_tables, is_plain_lone, ones
from makers import long_numbers, plain_parts, plain_splits, some_numbers
from rounders import fractions_of, plain_firm, some_shares
from splitnumbers.abouts import about, greatest_jump, half_rounding, split_sums
from splitnumbers.lonetolls import lone_of_toll, lone_toll
from splitnumbers.numbers import Numbers
from splitnumbers.tables import Table

FIRM = list(firm_tables(40, 241, (0, 4), (1, 5)))


def dot(row, x):
    return sum(a * b for a, b in zip(row, x))


def cases(seed, greatest=5, bottoms=(2, 3, 7)):
    for k, table in enumerate(FIRM):
        row = tuple(some_numbers(table.columns, seed + k, -greatest, greatest))
        for bottom in bottoms:
            yield table, row, some_shares(table.columns, seed + 3 * k + bottom, bottom)


def plain_couples(table, row, shares):
    """All couples of firm roundings, equal or a step, with the sum of the shares at the row between theirs."""
    middle = dot(row, fractions_of(shares))
    firm = plain_firm(table, ones(table), shares)
    return [(z, y) for z in firm for y in firm if dot(row, z) <= middle <= dot(row, y)
            and (z == y or is_plain_lone(table, tuple(b - a for a, b in zip(z, y))))]


class AboutTest(unittest.TestCase):
    def test_small_cases(self):
        table = Table([(1, 1, 1)])
        row = (2, -1, 0)
        shares = [(1, 2), (1, 2), 0]
        self.assertEqual(about(table, row, shares), ((0, 1, 0), (1, 0, 0)))
        self.assertEqual(half_rounding(table, row, shares), (0, 1, 0))
        self.assertEqual(about(table, [-2, 1, 0], shares), ((1, 0, 0), (0, 1, 0)))
        self.assertEqual(about(table, (1, 1, 1), Numbers([1, 1, 0], 2)), ((0, 1, 0), (0, 1, 0)))
        self.assertEqual(about(Table.zeros(0, 1), (4,), [(1, 3)]), ((0,), (1,)))
        self.assertEqual(about(Table.zeros(0, 1), (0,), [(1, 3)]), ((0,), (0,)))
        self.assertEqual(about(Table.zeros(0, 1), (4,), [1]), ((1,), (1,)))
        self.assertEqual(half_rounding(Table.zeros(0, 1), (4,), [(2, 3)]), (1,))
        # Several couples differ by 2: the first one in ascending order is told, not the first one by its lower sum.
        self.assertEqual(about(Table.zeros(0, 2), (2, -2), [(1, 4), (1, 2)]), ((0, 1), (0, 0)))

    def test_against_all_couples(self):
        equal = 0
        for table, row, shares in cases(242):
            couples = plain_couples(table, row, shares)
            self.assertTrue(couples)
            toll = lone_toll(table, row)
            self.assertTrue(all(dot(row, y) - dot(row, z) <= toll for z, y in couples))
            least = min(dot(row, y) - dot(row, z) for z, y in couples)
            found = about(table, row, shares)
            self.assertEqual(found, min(couple for couple in couples if dot(row, couple[1]) - dot(row, couple[0]) == least))
            exact = [z for z, y in couples if z == y]
            if exact:
                equal += 1
                self.assertEqual(found, (exact[0], exact[0]))
            for z, y in couples:
                self.assertTrue(z != y or dot(row, z) == dot(row, fractions_of(shares)))
        self.assertTrue(equal > 10)

    def test_half_rounding(self):
        for table, row, shares in cases(243):
            middle = dot(row, fractions_of(shares))
            firm = plain_firm(table, ones(table), shares)
            sizes = [abs(dot(row, z) - middle) for z in firm]
            self.assertEqual(half_rounding(table, row, shares), firm[sizes.index(min(sizes))])
            self.assertLessEqual(2 * min(sizes), lone_toll(table, row))

    def test_half_is_reached(self):
        for table, row, _ in cases(244, bottoms=(2,)):
            d = lone_of_toll(table, row)
            w = [(abs(a), 2) for a in d]
            firm = plain_firm(table, ones(table), w)
            self.assertEqual(len(firm), 2)
            middle = dot(row, fractions_of(w))
            self.assertEqual({abs(dot(row, z) - middle) for z in firm}, {Fraction(lone_toll(table, row), 2)})
            self.assertEqual(half_rounding(table, row, w), firm[0])

    def test_long_numbers_and_twelve_rows(self):
        table = Table.chain(4) & Table.zeros(9, 4)
        for seed in range(5):
            row = long_numbers(4, seed)
            shares = [(abs(top), 10 ** 12) for top in long_numbers(4, seed + 9, 10 ** 12)]
            couples = plain_couples(table, row, shares)
            least = min(dot(row, y) - dot(row, z) for z, y in couples)
            self.assertEqual(about(table, row, shares),
                             min(couple for couple in couples if dot(row, couple[1]) - dot(row, couple[0]) == least))

    def test_errors(self):
        check_calls(self, about, ("row", "shares"))
        check_calls(self, half_rounding, ("row", "shares"))


class SplitSumsTest(unittest.TestCase):
    def test_small_cases(self):
        table = Table([(1, 1, 1)])
        self.assertEqual(split_sums(table, (2, -1, 0), [0, 1]), (-3, 3))
        self.assertEqual(split_sums(table, (2, -1, 0), (2, 1, 0)), (-3, -1, 1, 3))
        self.assertEqual((split_sums(table, (2, -1, 0), ()), greatest_jump(table, (2, -1, 0), ())), ((0,), 0))
        self.assertEqual((split_sums(table, (5, 5, 0), (0, 1)), greatest_jump(table, (5, 5, 0), [0, 1])), ((0,), 0))
        self.assertEqual(greatest_jump(table, (2, -1, 0), [1, 0]), 6)
        self.assertEqual(greatest_jump(table, (2, -1, 0), [0, 1, 2]), 2)

    def test_all_parts(self):
        for table, row, _ in cases(245, bottoms=(2,)):
            toll = lone_toll(table, row)
            for part in plain_parts(table.columns):
                sums = split_sums(table, row, part[::-1])
                expected = sorted({dot(row, x) for x in plain_splits(table, ones(table), part)})
                self.assertEqual(sums, tuple(expected))
                jumps = [b - a for a, b in zip(sums, sums[1:])]
                self.assertEqual(greatest_jump(table, row, part), max(jumps, default=0))
                self.assertTrue(all(jump <= 2 * toll for jump in jumps))
                self.assertEqual(sums, tuple(-s for s in sums[::-1]))
                self.assertEqual(len({s % 2 for s in sums}), 1)
            part = tuple(j for j, a in enumerate(lone_of_toll(table, row)) if a)
            self.assertEqual(split_sums(table, row, part), (-toll, toll) if toll else (0,))
            self.assertEqual(greatest_jump(table, row, part), 2 * toll)

    def test_errors(self):
        check_calls(self, split_sums, ("row", "part"))
        check_calls(self, greatest_jump, ("row", "part"))


if __name__ == "__main__":
    unittest.main()
