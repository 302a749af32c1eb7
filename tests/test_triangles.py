"""Firm roundings and mixes of at most three of them at two rows below a firm table."""

import itertools
import unittest
from fractions import Fraction

from callers import check_calls
from firmers import firm_tables, negative, ones, plain_lones
from makers import error_of, long_numbers, plain_failing, some_numbers
from rounders import fractions_of, plain_firm, some_shares, told
from rowmakers import all_of, dot, two_rows_each, ways_of, worth
from splitnumbers.mixes import RoundingMix
from splitnumbers.numbers import Numbers
from splitnumbers.pairs import pairs_of
from splitnumbers.pairtolls import pair_serves
from splitnumbers.pricesteps import step_price
from splitnumbers.solving import solve
from splitnumbers.stairs import stairs_of
from splitnumbers.tables import Table
from splitnumbers.triangles import both_mix, cheap_both, half_both, is_good, triangle_of

FIRM = list(firm_tables(18, 311, (0, 3), (1, 4))) + list(firm_tables(5, 312, (0, 2), (5, 5)))
FREE = Table.zeros(0, 2)
HALF = [(1, 2), (1, 2)]


def below(table, one, other):
    return table.with_row(one).with_row(other)


def misses(one, other, w, z):
    return abs(dot(one, z) - dot(one, w)), abs(dot(other, z) - dot(other, w))


def enough_cases(tables, seed, bottoms=(2, 5, 12), greatest=3):
    """Tables, rows, couples of the stairs and one that is above them, shares and prices."""
    for k, (table, one, other) in enumerate(two_rows_each(tables, seed, greatest)):
        stairs = stairs_of(table, one, other)
        couples = stairs + [(stairs[0][0] + 1, stairs[0][1] + 2)]
        for at, bottom in enumerate(bottoms):
            shares = some_shares(table.columns, seed + 5 * k + at, bottom)
            prices = tuple(some_numbers(table.columns, seed + 7 * k + at, -4, 4))
            yield table, one, other, couples[(k + at) % len(couples)], prices, shares


def plain_good(table, one, other, first, second):
    """All good differences, leading or not."""
    found = list(plain_lones(table)) + [way for pair in pairs_of(table) for way in ways_of(pair)]
    near = [d for d in found if worth(one, d) <= first and worth(other, d) <= second]
    return set(near) | {negative(d) for d in near}


def weights_at(points):
    """The weights above 0 with which the points have the mean (0, 0), None if there are none or more than one."""
    rows = [[Fraction(1)] * len(points)] + [[Fraction(p[i]) for p in points] for i in (0, 1)]
    rows = [row + [Fraction(right)] for row, right in zip(rows, (1, 0, 0))]
    at = 0
    for j in range(len(points)):
        chosen = [i for i in range(at, 3) if rows[i][j]]
        if not chosen:
            return None
        rows[at], rows[chosen[0]] = rows[chosen[0]], rows[at]
        rows[at] = [a / rows[at][j] for a in rows[at]]
        for i in range(3):
            if i != at:
                rows[i] = [a - rows[i][j] * b for a, b in zip(rows[i], rows[at])]
        at += 1
    if any(row[-1] for row in rows[at:]):
        return None
    weights = [rows[i][-1] for i in range(len(points))]
    return weights if min(weights) > 0 else None


def plain_triangle_prices(table, one, other, couple, prices, shares, all_groups):
    """Prices of mixes of one, two or three firm roundings that keep both sums: of all of them, or of triangles."""
    w = fractions_of(shares)
    good = plain_good(table, one, other, *couple)
    firm = plain_firm(table, ones(table), shares)
    points = {z: (dot(one, z) - dot(one, w), dot(other, z) - dot(other, w)) for z in firm}
    for size in (1, 2, 3):
        for group in itertools.combinations(firm, size):
            differences = [tuple(b - a for a, b in zip(y, z)) for y, z in itertools.combinations(group, 2)]
            if all_groups or all(d in good for d in differences):
                weights = weights_at([points[z] for z in group])
                if weights:
                    yield sum(weight * dot(prices, z) for weight, z in zip(weights, group))


class HalfTest(unittest.TestCase):
    def test_small_cases(self):
        one, other = (3, 3), (3, -3)
        self.assertEqual(half_both(FREE, one, other, 3, 6, [(1, 3), (1, 3)]), (0, 1))
        self.assertEqual(half_both(FREE, one, other, 3, 6, HALF), (0, 1))
        self.assertEqual(half_both(FREE, one, other, 6, 3, Numbers([1, 1], 2)), (0, 0))
        self.assertIsNone(half_both(FREE, one, other, 5, 5, HALF))
        self.assertIsNone(half_both(FREE, one, other, 1, 1, HALF))
        self.assertEqual(half_both(FREE, one, other, 1, 1, [1, 0]), (1, 0))
        self.assertEqual(half_both(Table([(1, 1)]), (2, 2), (0, 0), 1, 1, HALF), (0, 1))
        self.assertEqual(half_both(Table.zeros(12, 1), (0,), (0,), 1, 1, [(1, 2)]), (0,))

    def test_against_all_roundings(self):
        seen = {True: 0, False: 0}
        for table, one, other, couple, _, shares in enough_cases(FIRM, 313):
            w = fractions_of(shares)
            for first, second in (couple, (1, 1), (couple[0], max(1, couple[1] - 1)), (2, 1)):
                near = [z for z in plain_firm(table, ones(table), shares)
                        if all(2 * a <= h for a, h in zip(misses(one, other, w, z), (first, second)))]
                answer = half_both(table, one, other, first, second, shares)
                self.assertEqual(answer, near[0] if near else None)
                seen[answer is None] += 1
        self.assertTrue(min(seen.values()) > 20, seen)

    def test_halves_decide(self):
        seen = {True: 0, False: 0}
        for table, one, other in two_rows_each(FIRM[:14], 314, 2):
            high = [max(couple[k] for couple in stairs_of(table, one, other)) for k in (0, 1)]
            for first, second in itertools.product(range(1, high[0] + 2), range(1, high[1] + 2)):
                enough = pair_serves(table, one, other, first, second)
                seen[enough] += 1
                halves = all_of(table.columns, (0, (1, 2)))
                each = all(half_both(table, one, other, first, second, w) is not None for w in halves)
                self.assertEqual(each, enough, (table.rows, one, other, first, second))
        self.assertTrue(min(seen.values()) > 40, seen)

    def test_each_share_has_one(self):
        for table, one, other, (first, second), _, shares in enough_cases(FIRM, 315, (3, 7, 1000)):
            self.assertIsNotNone(half_both(table, one, other, first, second, shares))

    def test_errors(self):
        check_calls(self, half_both, ("row", "row", "first", "second", "shares"), 5)


class GoodTest(unittest.TestCase):
    def test_small_cases(self):
        one, other = (3, 3), (3, -3)
        self.assertIs(is_good(FREE, one, other, 3, 6, (1, -1)), True)
        self.assertIs(is_good(FREE, one, other, 3, 6, [-1, 1]), True)
        self.assertIs(is_good(FREE, one, other, 3, 6, (1, 1)), False)
        self.assertIs(is_good(FREE, one, other, 6, 3, (1, 1)), True)
        self.assertIs(is_good(FREE, one, other, 6, 6, (0, 0)), False)
        self.assertIs(is_good(FREE, one, other, 2, 6, (0, 1)), False)
        # Three single columns are neither lone nor a pair.
        self.assertIs(is_good(Table.zeros(0, 3), (0, 0, 0), (0, 0, 0), 1, 1, (1, 1, 1)), False)
        # A part without a lone split or a pair may have splits.
        self.assertIs(is_good(Table([(1, 1, 1)]), (0, 0, 0), (0, 0, 0), 9, 9, (1, 1, -1)), False)

    def test_all_signs(self):
        for table, one, other in two_rows_each(FIRM[:16], 316):
            for first, second in [(1, 1), (3, 2)] + stairs_of(table, one, other):
                good = plain_good(table, one, other, first, second)
                for signs in all_of(table.columns, (-1, 0, 1)):
                    self.assertEqual(is_good(table, one, other, first, second, signs), signs in good)

    def test_errors(self):
        check_calls(self, is_good, ("row", "row", "first", "second", "signs"), 5)


class TriangleTest(unittest.TestCase):
    def check(self, table, one, other, couple, prices, shares):
        """Checks a triangle's mix; tells how many roundings it has."""
        mix = triangle_of(table, one, other, *couple, prices, shares)
        self.assertIs(type(mix), RoundingMix)
        self.assertTrue(len(mix) <= 3)
        w = fractions_of(shares)
        firm = plain_firm(table, ones(table), shares)
        good = plain_good(table, one, other, *couple)
        tuples = [z for z, _ in mix]
        for y, z in itertools.combinations(tuples, 2):
            self.assertIn(tuple(b - a for a, b in zip(y, z)), good)
        for row, h, k in ((one, couple[0], 0), (other, couple[1], 1)):
            middle = Fraction(dot(row, w))
            self.assertEqual(mix.mean_at(row), told(middle))
            self.assertLessEqual(Fraction(*mix.mean_square(row, told(middle))), Fraction(h * h, 4))
            self.assertTrue(all(misses(one, other, w, z)[k] < h for z in tuples))
            self.assertLessEqual(Fraction(*step_price(table, row, prices, shares)), Fraction(*mix.mean_at(prices)))
        self.assertTrue(all(z in firm for z in tuples))
        price = Fraction(*mix.mean_at(prices))
        self.assertLessEqual(price, dot(prices, w))
        columns = [(1, dot(one, z), dot(other, z)) for z in firm]
        room = Numbers.of_ratios([1, told(Fraction(dot(one, w))), told(Fraction(dot(other, w)))])
        total = solve(columns, room, [-dot(prices, z) for z in firm])[1]
        self.assertEqual(price, -Fraction(*total))
        self.assertEqual(triangle_of(table, one, other, *couple, prices, shares), mix)
        return len(mix)

    def test_small_cases(self):
        one, other = (3, 3), (3, -3)
        mix = triangle_of(FREE, one, other, 3, 6, (1, 1), [(1, 3), (1, 3)])
        self.assertEqual(mix.entries, (((0, 0), (1, 3)), ((0, 1), (1, 3)), ((1, 0), (1, 3))))
        self.assertEqual(triangle_of(FREE, one, other, 3, 6, (1, 1), (1, 0)).entries, (((1, 0), (1, 1)),))
        mix = triangle_of(FREE, one, other, 3, 6, [0, 0], Numbers([1, 1], 2))
        self.assertEqual(mix.entries, (((0, 1), (1, 2)), ((1, 0), (1, 2))))
        mix = triangle_of(FREE, one, other, 6, 3, (0, 0), HALF)
        self.assertEqual(mix.entries, (((0, 0), (1, 2)), ((1, 1), (1, 2))))
        # Rows of zeros are kept by each rounding alone: the price decides.
        mix = triangle_of(FREE, (0, 0), (0, 0), 1, 1, (1, -1), HALF)
        self.assertEqual(mix.entries, (((0, 1), (1, 1)),))
        self.assertEqual(len(triangle_of(FREE, (0, 0), (0, 0), 1, 1, (0, 0), HALF)), 1)

    def test_many_tables(self):
        sizes = set()
        for case in enough_cases(FIRM, 317):
            sizes.add(self.check(*case))
        self.assertEqual(sizes, {1, 2, 3})

    def test_against_all_mixes_of_three(self):
        for case in enough_cases(FIRM[:12], 318, (2, 7)):
            table, one, other, couple, prices, shares = case
            price = Fraction(*triangle_of(table, one, other, *couple, prices, shares).mean_at(prices))
            self.assertEqual(price, min(plain_triangle_prices(*case, False)))
            self.assertEqual(price, min(plain_triangle_prices(*case, True)))

    def test_five_columns_and_long_numbers(self):
        for table in (Table.zeros(0, 5), Table.chain(5), Table([(1,) * 5]), Table.zeros(12, 5), Table([(1, 1, 0, 0, 0)] * 11)):
            one, other = long_numbers(5, 7), long_numbers(5, 8)
            shares = [(abs(top), 10 ** 12) for top in long_numbers(5, 9, 10 ** 12)]
            for couple in stairs_of(table, one, other)[:2]:
                self.check(table, one, other, couple, tuple(long_numbers(5, 10)), shares)

    def test_errors(self):
        check_calls(self, triangle_of, ("row", "row", "first", "second", "row", "shares"), 5)


class BothMixTest(unittest.TestCase):
    def check(self, table, one, other, couple, shares):
        mix = both_mix(table, one, other, *couple, shares)
        self.assertIs(type(mix), RoundingMix)
        w = fractions_of(shares)
        self.assertEqual([Fraction(*share) for share in mix.means()], w)
        firm = plain_firm(table, ones(table), shares)
        for z, _ in mix:
            self.assertIn(z, firm)
            self.assertTrue(all(a < h for a, h in zip(misses(one, other, w, z), couple)))
        for row, h in ((one, couple[0]), (other, couple[1])):
            square = mix.mean_square(row, told(Fraction(dot(row, w))))
            self.assertLessEqual(Fraction(*square), Fraction(h * h, 4))
        self.assertEqual(both_mix(table, one, other, *couple, shares), mix)

    def test_small_cases(self):
        mix = both_mix(FREE, (3, 3), (3, -3), 3, 6, HALF)
        self.assertEqual(mix.entries, (((0, 1), (1, 2)), ((1, 0), (1, 2))))
        self.assertEqual(both_mix(FREE, (0, 0), (0, 0), 1, 1, [1, 0]).entries, (((1, 0), (1, 1)),))
        self.check(FREE, (0, 0), [0, 0], (1, 1), Numbers([1, 1], 2))
        self.check(Table.zeros(12, 5), (3, 1, 0, 1, 2), (0, 1, 1, 2, 1), (3, 9), [(1, 3)] * 5)

    def test_many_tables(self):
        for table, one, other, couple, _, shares in enough_cases(FIRM, 319):
            self.check(table, one, other, couple, shares)

    def test_all_halves_at_the_stairs(self):
        for table, one, other in two_rows_each(FIRM[:12], 320):
            for couple in stairs_of(table, one, other):
                for shares in all_of(table.columns, (0, (1, 2))):
                    self.check(table, one, other, couple, shares)

    def test_long_numbers(self):
        one, other = long_numbers(4, 11), long_numbers(4, 12)
        for couple in stairs_of(Table.zeros(11, 4), one, other):
            self.check(Table.zeros(11, 4), one, other, couple, [(1, 10 ** 12), (2, 3), (5, 7), (1, 2)])

    def test_errors(self):
        check_calls(self, both_mix, ("row", "row", "first", "second", "shares"), 5)


class NotServingTest(unittest.TestCase):
    def test_the_first_failing_part(self):
        looked_at = 0
        for table, one, other in two_rows_each(FIRM, 321):
            zeros = (0,) * table.columns
            for first, second in itertools.product((1, 2, 4), repeat=2):
                failing = plain_failing(below(table, one, other), ones(table) + (first, second))
                error = ("NotServing", failing[0]) if failing else None
                looked_at += bool(failing)
                self.assertEqual(error_of(triangle_of, table, one, other, first, second, zeros, zeros), error)
                self.assertEqual(error_of(both_mix, table, one, other, first, second, zeros), error)
                self.assertIsNone(error_of(half_both, table, one, other, first, second, zeros))
                self.assertIsNone(error_of(cheap_both, table, one, other, first, second, zeros, zeros))
        self.assertTrue(looked_at > 50)

    def test_behind_the_other_errors(self):
        values = ((5, 5), (5, 5), 1, 1)
        self.assertEqual(error_of(both_mix, Table([(1, 2)]), *values, (0, 0)), ("NotFirm", (1,)))
        self.assertEqual(error_of(both_mix, FREE, *values, (0, 0)), ("NotServing", (0,)))
        self.assertEqual(error_of(both_mix, FREE, *values, (0, 2)), ("BadShares", 1))
        self.assertEqual(error_of(triangle_of, FREE, *values, (0,), (0, 2)), ("OtherSize", 2))
        self.assertEqual(error_of(triangle_of, Table.zeros(12, 2), *values, (0, 0), (0, 0)), ("NotServing", (0,)))
        self.assertEqual(error_of(triangle_of, FREE, (3, 3), (3, -3), 5, 5, (0, 0), HALF), ("NotServing", (0, 1)))
        wide = Table([(2,) * 6])
        self.assertEqual(error_of(both_mix, wide, (5,) * 6, (5,) * 6, 1, 1, (0,) * 6), ("TooMany", 5))


class CheapBothTest(unittest.TestCase):
    def test_small_cases(self):
        one, other = (3, 3), (3, -3)
        self.assertEqual(cheap_both(FREE, one, other, 3, 6, (1, -1), HALF), (0, 1))
        self.assertEqual(cheap_both(FREE, one, other, 3, 6, (0, 0), HALF), (0, 1))
        self.assertEqual(cheap_both(FREE, one, other, 4, 4, (1, 1), HALF), (0, 0))
        self.assertIsNone(cheap_both(FREE, one, other, 3, 3, (1, 1), HALF))
        self.assertIsNone(cheap_both(FREE, one, other, 1, 9, (1, 1), [(1, 3), (1, 3)]))
        # A miss of the size of the toll is not below it.
        self.assertIsNone(cheap_both(Table.zeros(0, 1), (2,), (0,), 1, 1, (0,), [(1, 2)]))

    def test_against_all_roundings(self):
        for table, one, other, couple, prices, shares in enough_cases(FIRM, 322):
            w = fractions_of(shares)
            for first, second in (couple, (1, 1), (2, 3), (max(1, couple[0] - 1), couple[1])):
                near = [z for z in plain_firm(table, ones(table), shares)
                        if all(a < h for a, h in zip(misses(one, other, w, z), (first, second)))]
                best = min(near, key=lambda z: (dot(prices, z), z)) if near else None
                self.assertEqual(cheap_both(table, one, other, first, second, prices, shares), best)
                if pair_serves(table, one, other, first, second):
                    self.assertLessEqual(dot(prices, best), dot(prices, w))

    def test_errors(self):
        check_calls(self, cheap_both, ("row", "row", "first", "second", "row", "shares"), 5)


if __name__ == "__main__":
    unittest.main()
