"""Price steps and cheap roundings."""

import unittest
from fractions import Fraction

from callers import check_calls
from firmers import firm_tables, is_plain_lone, negative, ones
from makers import long_numbers, some_numbers
from rounders import fractions_of, plain_firm, some_shares, told
from splitnumbers.abouts import about
from splitnumbers.lonetolls import lone_of_toll, lone_toll
from splitnumbers.numbers import Numbers
from splitnumbers.pricesteps import cheap_rounding, price_step, step_price
from splitnumbers.solving import solve
from splitnumbers.tables import Table

FIRM = list(firm_tables(40, 251, (0, 4), (1, 5)))


def dot(row, x):
    return sum(a * b for a, b in zip(row, x))


def cases(tables, seed, greatest=5, bottoms=(2, 3, 7)):
    for k, table in enumerate(tables):
        row = tuple(some_numbers(table.columns, seed + k, -greatest, greatest))
        prices = some_numbers(table.columns, seed + 2 * k + 1, -greatest, greatest)
        for bottom in bottoms:
            yield table, row, prices, some_shares(table.columns, seed + 3 * k + bottom, bottom)


def plain_steps(table, row, prices, shares):
    """All price steps with their prices, by the definition."""
    middle = dot(row, fractions_of(shares))
    firm = plain_firm(table, ones(table), shares)
    found = []
    for k, z in enumerate(firm):
        if dot(row, z) == middle:
            found.append((Fraction(dot(prices, z)), (z, z, (0, 1))))
        for y in firm[k + 1:]:
            low, high = sorted((dot(row, z), dot(row, y)))
            if low < middle < high and is_plain_lone(table, tuple(b - a for a, b in zip(z, y))):
                t = (middle - dot(row, z)) / (dot(row, y) - dot(row, z))
                found.append(((1 - t) * dot(prices, z) + t * dot(prices, y), (z, y, told(t))))
    return found


class PriceStepTest(unittest.TestCase):
    def test_small_cases(self):
        table = Table([(1, 1, 1)])
        row = (2, -1, 0)
        prices = (1, 5, 0)
        shares = [(1, 2), (1, 2), 0]
        self.assertEqual(price_step(table, row, prices, shares), ((0, 1, 0), (1, 0, 0), (1, 2)))
        self.assertEqual(step_price(table, row, prices, shares), (3, 1))
        self.assertEqual(cheap_rounding(table, row, prices, shares), (1, 0, 0))
        self.assertEqual(price_step(table, Numbers(row), list(prices), Numbers([0, 1, 0])),
                         ((0, 1, 0), (0, 1, 0), (0, 1)))
        free = Table.zeros(0, 1)
        self.assertEqual((price_step(free, (3,), (2,), [(1, 3)]), step_price(free, (3,), (2,), [(1, 3)])),
                         (((0,), (1,), (1, 3)), (2, 3)))
        self.assertEqual((price_step(free, (0,), (-2,), [(1, 3)]), step_price(free, (0,), (-2,), [(1, 3)])),
                         (((1,), (1,), (0, 1)), (-2, 1)))

    def test_against_all_price_steps(self):
        several = 0
        even = [(table, row, (1,) * table.columns, shares) for table, row, _, shares in cases(FIRM, 252, 2)]
        for table, row, prices, shares in list(cases(FIRM, 252, 3)) + even:
            steps = plain_steps(table, row, prices, shares)
            least = min(price for price, _ in steps)
            cheapest = [step for price, step in steps if price == least]
            several += len(cheapest) > 1
            self.assertEqual(step_price(table, row, prices, shares), told(least))
            self.assertEqual(price_step(table, row, prices, shares), min(cheapest))
            self.assertLessEqual(least, dot(prices, fractions_of(shares)))
        self.assertTrue(several > 10)

    def test_least_mean_price_of_all_mixes(self):
        for table, row, prices, shares in cases(FIRM, 253):
            firm = plain_firm(table, ones(table), shares)
            columns = [(1, dot(row, z)) for z in firm]
            room = [(1, 1), told(Fraction(dot(row, fractions_of(shares))))]
            total = solve(columns, room, [-dot(prices, z) for z in firm])[1]
            self.assertEqual(step_price(table, row, prices, shares), (-total[0], total[1]))

    def test_long_numbers(self):
        for seed in range(5):
            table = Table([(1, 1, 0, -1), (0, 1, 1, 0)])
            row = long_numbers(4, seed)
            prices = long_numbers(4, seed + 20)
            shares = [(abs(top), 10 ** 12) for top in long_numbers(4, seed + 9, 10 ** 12)]
            steps = plain_steps(table, row, prices, shares)
            self.assertEqual((told(min(steps)[0]), min(steps)[1]),
                             (step_price(table, row, prices, shares), price_step(table, row, prices, shares)))

    def test_about_is_an_end_of_some_step(self):
        for table, row, prices, shares in cases(FIRM[:20], 254):
            ends = {frozenset(step[:2]) for _, step in plain_steps(table, row, prices, shares)}
            self.assertIn(frozenset(about(table, row, shares)), ends)

    def test_errors(self):
        for call in (price_step, step_price, cheap_rounding):
            check_calls(self, call, ("row", "row", "shares"))


class CheapRoundingTest(unittest.TestCase):
    def test_against_all_roundings(self):
        for table, row, prices, shares in cases(FIRM, 255):
            middle = dot(row, fractions_of(shares))
            toll = lone_toll(table, row)
            near = [z for z in plain_firm(table, ones(table), shares)
                    if abs(dot(row, z) - middle) < toll or dot(row, z) == middle]
            least = min(dot(prices, z) for z in near)
            found = cheap_rounding(table, row, prices, shares)
            self.assertEqual(found, next(z for z in near if dot(prices, z) == least))
            self.assertLessEqual(least, dot(prices, fractions_of(shares)))
            ends = price_step(table, row, prices, shares)[:2]
            self.assertTrue(any(z in near and dot(prices, z) <= dot(prices, fractions_of(shares)) for z in ends))

    def test_rows_of_zeros(self):
        table = Table([(1, 1)])
        half = [(1, 2), (1, 2)]
        self.assertEqual(cheap_rounding(table, (0, 0), (1, 2), half), (1, 0))
        self.assertEqual(cheap_rounding(table, (0, 0), (1, 1), half), (0, 1))
        self.assertEqual(cheap_rounding(table, (1, -1), (1, 2), half), (1, 0))

    def test_no_lesser_toll(self):
        for table, row, _, _ in cases(FIRM, 256, bottoms=(2,)):
            toll = lone_toll(table, row)
            for d in (lone_of_toll(table, row), negative(lone_of_toll(table, row))):
                z = tuple(int(a == -1) for a in d)
                further = tuple(a + b for a, b in zip(z, d))
                for t in (Fraction(1, 7), Fraction(9, 10)):
                    w = [told(a + t * b) for a, b in zip(z, d)]
                    self.assertEqual(sorted(plain_firm(table, ones(table), w)), sorted((z, further)))
                    middle = [a + t * b for a, b in zip(z, d)]
                    self.assertTrue(dot(d, z) <= dot(d, middle) < dot(d, further))
                    self.assertEqual(abs(dot(row, z) - dot(row, middle)), t * toll)
                    if toll:
                        self.assertEqual(cheap_rounding(table, row, d, w), z)


if __name__ == "__main__":
    unittest.main()
