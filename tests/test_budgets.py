"""The least price at a sum, the corners where it bends, and the cheapest firm rounding within a budget."""

import itertools
import unittest
from fractions import Fraction

from callers import check_calls, wrongs_of
from firmers import firm_tables, ones, plain_lones
from makers import error_of, long_numbers, some_numbers
from rounders import fractions_of, plain_firm, some_shares, told
from rowmakers import dot
from splitnumbers.budgets import cheapest_within, least_price, price_corners
from splitnumbers.lonetolls import lone_toll
from splitnumbers.numbers import Numbers
from splitnumbers.pricesteps import step_price
from splitnumbers.solving import solve
from splitnumbers.steps import steps_of
from splitnumbers.tables import Table

FIRM = list(firm_tables(30, 471, (0, 3), (1, 5)))
FREE = Table.zeros(0, 2)
HALF = ((1, 2), (1, 2))


def cases(seed, tables=FIRM, bottoms=(2, 5), greatest=4):
    """Tables, rows, prices and shares."""
    for k, table in enumerate(tables):
        n = table.columns
        numbers = tuple(some_numbers(2 * n, seed + 7919 * k * k, -greatest, greatest))
        for bottom in bottoms:
            yield table, numbers[:n], numbers[n:], some_shares(n, seed + 5 * k * k + bottom, bottom)


def plain_points(table, row, prices, shares):
    return [(dot(row, z), dot(prices, z)) for z in plain_firm(table, ones(table), shares)]


def plain_price(points, b):
    """The least price at b, by all couples of points."""
    found = [Fraction(p) for a, p in points if a == b]
    for (a, p), (c, q) in itertools.permutations(points, 2):
        if a < b < c:
            found.append(p + (q - p) * Fraction(b - a) / (c - a))
    return min(found) if found else None


def budgets_around(points):
    sums = sorted(a for a, _ in points)
    return [Fraction(top, 4) for top in range(4 * sums[0] - 5, 4 * sums[-1] + 6, 1 + (sums[-1] - sums[0]) // 8)]


class LeastPriceTest(unittest.TestCase):
    def test_small_cases(self):
        corners = price_corners(FREE, (1, 2), (1, -1), HALF)
        self.assertEqual(corners, ((0, 0), (2, -1), (3, 0)))
        self.assertEqual(least_price(FREE, (1, 2), (1, -1), HALF, 1), (-1, 2))
        self.assertEqual(least_price(FREE, [1, 2], Numbers([1, -1]), Numbers([1, 1], 2), (5, 2)), (-1, 2))
        self.assertEqual(least_price(FREE, (1, 2), (1, -1), HALF, [6, 2]), (0, 1))
        for budget in (-1, (-1, 9), (31, 10), 4):
            self.assertIsNone(least_price(FREE, (1, 2), (1, -1), HALF, budget))
        # One corner alone.
        self.assertEqual(price_corners(FREE, (0, 0), (1, -1), HALF), ((0, -1),))
        self.assertEqual(least_price(FREE, (0, 0), (1, -1), HALF, 0), (-1, 1))
        self.assertIsNone(least_price(FREE, (0, 0), (1, -1), HALF, (1, 7)))
        self.assertEqual(price_corners(FREE, (1, 2), (1, -1), (1, 1)), ((3, 0),))
        self.assertEqual(price_corners(Table([(1, 1)]), (2, 2), (1, 0), HALF), ((2, 0),))
        # The way between does not bend at a point that lies on it.
        self.assertEqual(price_corners(FREE, (1, 2), (1, 2), HALF), ((0, 0), (3, 3)))
        self.assertEqual(price_corners(Table.zeros(12, 1), (3,), (-2,), [(1, 9)]), ((0, 0), (3, -2)))

    def test_against_all_couples(self):
        for table, row, prices, shares in cases(472):
            points = plain_points(table, row, prices, shares)
            for b in budgets_around(points):
                expected = plain_price(points, b)
                answer = least_price(table, row, prices, shares, told(b))
                self.assertEqual(answer, None if expected is None else told(expected))
                self.assertEqual(answer is None, not min(points)[0] <= b <= max(points)[0])

    def test_against_all_mixes(self):
        for table, row, prices, shares in cases(473, FIRM[:12]):
            points = plain_points(table, row, prices, shares)
            for b in budgets_around(points)[::3]:
                room = Numbers.of_ratios([1, told(b)])
                word, total = solve([(1, a) for a, _ in points], room, [-p for _, p in points])[:2]
                expected = None if word == "none" else told(-Fraction(*total))
                self.assertEqual(least_price(table, row, prices, shares, told(b)), expected)

    def test_one_or_two_roundings_and_price_steps(self):
        for table, row, prices, shares in cases(474):
            steps = steps_of(table, shares)
            firm = plain_firm(table, ones(table), shares)
            for b in budgets_around([(dot(row, z), 0) for z in firm]):
                answer = least_price(table, row, prices, shares, told(b))
                if answer is not None:
                    found = [Fraction(dot(prices, z)) for z in firm if dot(row, z) == b]
                    for y, z in steps:
                        low, high = sorted([(dot(row, y), dot(prices, y)), (dot(row, z), dot(prices, z))])
                        if low[0] < b < high[0]:
                            found.append(low[1] + (high[1] - low[1]) * Fraction(b - low[0]) / (high[0] - low[0]))
                    self.assertEqual(Fraction(*answer), min(found))
            middle = told(Fraction(dot(row, fractions_of(shares))))
            self.assertEqual(least_price(table, row, prices, shares, middle), step_price(table, row, prices, shares))

    def test_errors(self):
        check_calls(self, least_price, ("row", "row", "shares", "budget"))


class CornersTest(unittest.TestCase):
    def test_against_all_roundings(self):
        sizes = set()
        for table, row, prices, shares in cases(475):
            points = plain_points(table, row, prices, shares)
            corners = price_corners(table, row, prices, shares)
            sizes.add(len(corners))
            self.assertIs(type(corners), tuple)
            self.assertTrue(all(corner in points for corner in corners))
            sums = [a for a, _ in points]
            self.assertEqual((corners[0][0], corners[-1][0]), (min(sums), max(sums)))
            for b, price in corners:
                self.assertEqual(price, plain_price(points, Fraction(b)))
            rises = [Fraction(q - p, c - a) for (a, p), (c, q) in zip(corners, corners[1:])]
            self.assertTrue(all(less < more for less, more in zip(rises, rises[1:])))
            for (a, p), (c, q) in zip(corners, corners[1:]):
                for far in (Fraction(1, 3), Fraction(1, 2), Fraction(6, 7)):
                    self.assertEqual(plain_price(points, a + far * (c - a)), p + far * (q - p))
        self.assertTrue({1, 2, 3, 4} <= sizes, sizes)

    def test_seven_columns_and_long_numbers(self):
        for table in (Table.zeros(0, 7), Table.chain(7), Table.zeros(12, 4)):
            n = table.columns
            row, prices = tuple(long_numbers(n, 1)), tuple(long_numbers(n, 2))
            shares = [(1, 10 ** 12)] * n
            corners = price_corners(table, row, prices, shares)
            points = plain_points(table, row, prices, shares)
            self.assertEqual((corners[0], corners[-1]), (min(points), max(points)))
            for (a, p), (c, q) in zip(corners, corners[1:]):
                self.assertTrue(all((y - p) * (c - a) >= (q - p) * (x - a) for x, y in points))

    def test_errors(self):
        check_calls(self, price_corners, ("row", "row", "shares"))


class CheapestTest(unittest.TestCase):
    def test_small_cases(self):
        self.assertEqual(cheapest_within(FREE, (1, 2), (1, -1), HALF, 1), (0, 0))
        self.assertEqual(cheapest_within(FREE, (1, 2), (1, -1), HALF, 2), (0, 1))
        self.assertEqual(cheapest_within(FREE, (1, 2), (1, -1), HALF, (19, 10)), (0, 0))
        self.assertIsNone(cheapest_within(FREE, (1, 2), (1, -1), HALF, (-1, 5)))
        self.assertEqual(cheapest_within(FREE, (1, 2), (0, 0), HALF, 10 ** 30), (0, 0))
        self.assertEqual(cheapest_within(FREE, (1, -2), (0, 5), HALF, -2), (0, 1))

    def test_against_all_roundings(self):
        for table, row, prices, shares in cases(476):
            firm = plain_firm(table, ones(table), shares)
            points = plain_points(table, row, prices, shares)
            h = lone_toll(table, row)
            for b in budgets_around(points):
                near = [z for z in firm if dot(row, z) <= b]
                best = min(near, key=lambda z: (dot(prices, z), z)) if near else None
                self.assertEqual(cheapest_within(table, row, prices, shares, told(b)), best)
                if best is not None:
                    places = sorted({Fraction(a) for a, _ in points if a <= b} | ({b} if b <= max(points)[0] else set()))
                    self.assertGreaterEqual(dot(prices, best), min(plain_price(points, place) for place in places))
                    for less in (b - h, b - h - Fraction(1, 2)):
                        price = plain_price(points, less)
                        if price is not None:
                            self.assertLessEqual(dot(prices, best), price)

    def test_errors(self):
        check_calls(self, cheapest_within, ("row", "row", "shares", "budget"))
        for wrong, error in wrongs_of("budget", 2):
            self.assertEqual(error_of(cheapest_within, Table([(2, 2)]), (1, 2), (1, 2), HALF, wrong), error)
        self.assertEqual(len(plain_lones(FREE)), 2)


if __name__ == "__main__":
    unittest.main()
