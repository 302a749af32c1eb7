"""Mixes of roundings with small mean squares, for squares that even-serve."""

import itertools
import unittest
from fractions import Fraction

from firmers import firm_tables, ones
from makers import WRONG_INTEGERS, WRONG_KINDS, error_of, long_numbers, serving_tolls, some_numbers, some_tables
from rounders import fractions_of, plain_miss, plain_roundings, some_shares, told
from rowmakers import all_of
from splitnumbers.evenmixes import even_mix, square_bounds
from splitnumbers.games import even_of, even_serves
from splitnumbers.halving import depth_of, halves_mix
from splitnumbers.lonetolls import lone_toll
from splitnumbers.mixes import RoundingMix
from splitnumbers.numbers import Numbers
from splitnumbers.rowmixes import least_spread, step_mix
from splitnumbers.solving import solve
from splitnumbers.tables import Table

TWO = Table([(1, 1), (1, -1)])
HALF = [(1, 2), (1, 2)]
WRONG_RATIOS = (None, True, "1", 1.0, (1, 0), (1, -1), (1, 2, 3), [1], -1, (-1, 7))


def fraction(ratio):
    return Fraction(*ratio)


def mean_square(table, i, mix, shares):
    """The mean square of the miss in row i."""
    return sum((fraction(weight) * plain_miss(table, shares, z)[i] ** 2 for z, weight in mix), Fraction(0))


class EvenMixTest(unittest.TestCase):
    def check(self, table, squares, shares):
        mix = even_mix(table, squares, shares)
        self.assertIs(type(mix), RoundingMix)
        w = fractions_of(shares)
        self.assertEqual([fraction(share) for share in mix.means()], w)
        roundings = plain_roundings(shares)
        self.assertTrue(all(z in roundings for z, _ in mix))
        bounds = square_bounds(squares, depth_of(shares))
        for i in range(table.height):
            self.assertLessEqual(mean_square(table, i, mix, shares), fraction(bounds[i]))
        self.assertEqual(even_mix(table, squares, shares), mix)

    def test_small_cases(self):
        self.check(TWO, (1, 3), HALF)
        self.check(TWO, [2, 2], Numbers([3, 1], 4))
        self.check(TWO, Numbers([4, 8], 3), [(1, 16), (15, 16)])
        self.assertEqual(even_mix(TWO, (2, 2), (1, 0)).entries, (((1, 0), (1, 1)),))
        free = Table.zeros(0, 2)
        self.check(free, (), [(1, 8), (1, 2)])
        self.check(Table([(1, 1)]), (1,), HALF)
        self.check(Table.zeros(2, 2), (0, 0), HALF)

    def test_all_depths(self):
        for k, table in enumerate(list(some_tables(40, 431, (0, 4), (1, 4), 3)) + list(some_tables(6, 432, (3, 12), (5, 5), 3))):
            least = even_of(table) if table.height else (0, 1)
            for depth in range(5):
                shares = some_shares(table.columns, 433 + 31 * k * k + depth, 2 ** depth)
                self.check(table, [least] * table.height, shares)

    def test_squares_of_two_rows(self):
        for t in [Fraction(a, 8) for a in range(8, 25)]:
            for shares in all_of(2, ((1, 2), (1, 4), (3, 8), (5, 16))):
                self.check(TWO, (told(t), told(4 - t)), shares)

    def test_tolls_as_squares(self):
        for k, table in enumerate(some_tables(30, 434, (0, 3), (1, 4), 3)):
            tolls = serving_tolls(table)
            squares = [q * q for q in tolls]
            for depth in (0, 1, 3, 4):
                shares = some_shares(table.columns, 435 + 31 * k * k + depth, 2 ** depth)
                self.check(table, squares, shares)
                mix = halves_mix(table, tolls, shares)
                bounds = square_bounds(squares, depth_of(shares))
                part = 1 - Fraction(1, 2 ** depth_of(shares))
                for i in range(table.height):
                    self.assertLessEqual(mean_square(table, i, mix, shares), fraction(bounds[i]))
                    self.assertTrue(all(abs(plain_miss(table, shares, z)[i]) <= part * tolls[i] for z, _ in mix))

    def test_halves_decide(self):
        # Squares even-serve exactly if each row of shares 0 and 1/2 has a mix with a quarter of them.
        seen = {True: 0, False: 0}
        for k, table in enumerate(some_tables(40, 436, (1, 3), (1, 3), 2)):
            squares = [(top, 2) for top in some_numbers(table.height, 437 + 31 * k * k, 0, 10)]
            each = True
            for shares in all_of(table.columns, (0, (1, 2))):
                roundings = plain_roundings(shares)
                columns = [(1,) + z + tuple(int(4 * a * a) for a in plain_miss(table, shares, z)) for z in roundings]
                spare = [(0,) * (1 + table.columns + i) + (1,) + (0,) * (table.height - i - 1) for i in range(table.height)]
                room = Numbers.of_ratios((1,) + shares + tuple(squares))
                each = each and solve(columns + spare, room, [0] * len(columns + spare))[0] == "best"
            self.assertEqual(even_serves(table, squares), each)
            seen[each] += 1
        self.assertTrue(min(seen.values()) > 5, seen)

    def test_long_numbers(self):
        table = Table([long_numbers(5, seed) for seed in range(6)])
        self.check(table, [even_of(table)] * 6, [(1, 16), (3, 8), (1, 2), (15, 16), (5, 16)])

    def test_squares_that_do_not_even_serve(self):
        for shares in (HALF, (0, 0), (1, 0), [(3, 16), 1]):
            self.assertEqual(error_of(even_mix, TWO, (1, 2), shares), ("NotMet", "squares"))
            self.assertEqual(error_of(even_mix, TWO, ((1, 2), 9), shares), ("NotMet", "squares"))
            self.assertIsNone(error_of(even_mix, TWO, (1, 3), shares))

    def test_errors(self):
        wide = Table([(1,) * 6] * 2)
        third = [(1, 3)] * 6
        for wrong in WRONG_KINDS:
            self.assertEqual(error_of(even_mix, wide, wrong, None), ("BadNumbers", -1))
            self.assertEqual(error_of(even_mix, wide, (0, 0), wrong), ("BadShares", -1))
        for wrong in WRONG_RATIOS:
            self.assertEqual(error_of(even_mix, wide, (0, wrong, -5), None), ("BadNumbers", 1))
            self.assertEqual(error_of(even_mix, wide, (0, 0), (0, wrong, None)), ("BadShares", 1))
        self.assertEqual(error_of(even_mix, wide, (0,), None), ("OtherSize", 2))
        self.assertEqual(error_of(even_mix, wide, (0, 0), (0, 1, 0)), ("OtherSize", 6))
        self.assertEqual(error_of(even_mix, wide, (0, 0), third), ("TooMany", 5))
        five = Table([(1,) * 5] * 2)
        self.assertEqual(error_of(even_mix, five, (0, 0), third[:5]), ("NotFitting", "shares"))
        self.assertEqual(error_of(even_mix, five, (0, 0), [(1, 2), (1, 6), 0, 0, 0]), ("NotFitting", "shares"))
        self.assertEqual(error_of(even_mix, five, (0, 0), [(1, 32)] * 5), ("TooMany", 4))
        self.assertEqual(error_of(even_mix, five, (0, 0), [(1, 16)] * 5), ("NotMet", "squares"))
        self.assertEqual(error_of(even_mix, five, (0, 0), [0] * 5), ("NotMet", "squares"))
        self.assertIsNone(error_of(even_mix, five, (1, 1), [(1, 16)] * 5))


class SquareBoundsTest(unittest.TestCase):
    def test_small_cases(self):
        self.assertEqual(square_bounds((3, (1, 2)), 2), ((15, 16), (5, 32)))
        self.assertEqual(square_bounds([3, 0], 0), ((0, 1), (0, 1)))
        self.assertEqual(square_bounds(Numbers([3, 1], 2), 1), ((3, 8), (1, 8)))
        self.assertEqual(square_bounds((), 4), ())
        self.assertEqual(square_bounds([(10 ** 30, 7)] * 20, 5), (told(Fraction(10 ** 30, 7) * Fraction(1023, 3072)),) * 20)

    def test_errors(self):
        for wrong in WRONG_KINDS:
            self.assertEqual(error_of(square_bounds, wrong, None), ("BadNumbers", -1))
        for wrong in WRONG_RATIOS:
            self.assertEqual(error_of(square_bounds, (0, wrong, -5), None), ("BadNumbers", 1))
        for wrong in WRONG_INTEGERS + (-1,):
            self.assertEqual(error_of(square_bounds, (1, 2), wrong), ("BadNumber", "depth"))


class OneLooseRowTest(unittest.TestCase):
    def test_mean_squares_at_the_loose_row(self):
        for k, table in enumerate(firm_tables(40, 438, (0, 3), (1, 5))):
            row = tuple(some_numbers(table.columns, 439 + 31 * k * k, -4, 4))
            h = lone_toll(table, row)
            below = table.with_row(row)
            for depth in (1, 2, 5, 8):
                shares = some_shares(table.columns, 440 + 31 * k * k + depth, 2 ** depth)
                mix = halves_mix(below, ones(table) + (h,), shares)
                self.assertEqual([fraction(share) for share in mix.means()], fractions_of(shares))
                self.assertLessEqual(mean_square(below, table.height, mix, shares), Fraction(h * h, 3))
                step = step_mix(table, row, shares)
                middle = sum(a * b for a, b in zip(row, fractions_of(shares)))
                self.assertEqual(fraction(step.mean_at(row)), middle)
                self.assertLessEqual(fraction(step.mean_square(row, told(Fraction(middle)))), Fraction(h * h, 4))
                self.assertLessEqual(fraction(least_spread(table, row, shares)), Fraction(h * h, 4))

    def test_means_of_step_mixes(self):
        # They keep the row alone.
        mix = step_mix(Table.zeros(0, 2), (2, 1), [(1, 4), (1, 2)])
        self.assertEqual((mix.mean_at((2, 1)), mix.means()), ((1, 1), Numbers([0, 1])))
        for shares in itertools.product([(1, 4), (3, 4)], repeat=2):
            mix = halves_mix(Table([(2, 1)]), (2,), shares)
            self.assertEqual(list(mix.means()), list(shares))


if __name__ == "__main__":
    unittest.main()
