"""The depth of shares, the halves mix and its facts."""

import itertools
import unittest
from fractions import Fraction

from makers import WRONG_KINDS, all_tolls, error_of, plain_splits, serving_tolls, some_numbers, some_tables
from rounders import plain_firm, plain_miss, plain_roundings, some_shares
from splitnumbers.halving import depth_of, halves_mix
from splitnumbers.mixes import RoundingMix
from splitnumbers.numbers import Numbers
from splitnumbers.tables import Table
from splitnumbers.tolls import serves

T = Table([(1, 1), (1, -1)])
HALF = [(1, 2), (1, 2)]


def plain_halves(table, tolls, shares):
    """The halves mix as a dict of weights, word by word as it is described."""
    w = [Fraction(*share) for share in shares]
    if all(share.denominator == 1 for share in w):
        return {tuple(int(share) for share in w): Fraction(1)}
    carry = [(2 * share).__floor__() for share in w]
    double = [2 * share - c for share, c in zip(w, carry)]
    weights = {}
    for z, weight in plain_halves(table, tolls, [(d.numerator, d.denominator) for d in double]).items():
        total = [c + a for c, a in zip(carry, z)]
        part = tuple(j for j, a in enumerate(total) if a == 1)
        x = plain_splits(table, tolls, part)[0]
        for sign in (1, -1):
            half = tuple((a + sign * b) // 2 for a, b in zip(total, x))
            weights[half] = weights.get(half, Fraction(0)) + weight / 2
    return weights


class DepthTest(unittest.TestCase):
    def test_depth_of(self):
        self.assertEqual(depth_of([0, 1]), 0)
        self.assertEqual(depth_of([(1, 2), (3, 4)]), 2)
        self.assertEqual(depth_of([(2, 4)]), 1)
        self.assertIsNone(depth_of([(1, 2), (1, 3)]))
        self.assertIsNone(depth_of([(1, 6)]))
        self.assertEqual(depth_of(()), 0)
        self.assertEqual(depth_of(Numbers([1] * 20, 2 ** 30)), 30)
        self.assertEqual(depth_of([(1, 256)] * 13), 8)

    def test_errors(self):
        for wrong in WRONG_KINDS:
            self.assertEqual(error_of(depth_of, wrong), ("BadShares", -1))
        self.assertEqual(error_of(depth_of, [0, 2]), ("BadShares", 1))


class HalvesTest(unittest.TestCase):
    def test_example(self):
        mix = halves_mix(T, (2, 1), HALF)
        self.assertEqual(mix.entries, (((0, 0), (1, 2)), ((1, 1), (1, 2))))
        self.assertIs(type(mix), RoundingMix)

    def test_depth_zero(self):
        for shares in itertools.product((0, 1), repeat=2):
            self.assertEqual(halves_mix(T, (2, 1), shares).entries, ((shares, (1, 1)),))

    def test_word_by_word_and_its_facts(self):
        for k, table in enumerate(some_tables(40, 61, (0, 3), (1, 4), 3)):
            q = serving_tolls(table)
            for depth in (1, 2, 3, 5):
                shares = some_shares(table.columns, 3 * k + depth, 2 ** depth)
                mix = halves_mix(table, q, shares)
                weights = {z: Fraction(*weight) for z, weight in mix}
                self.assertEqual(weights, plain_halves(table, q, shares))
                self.assertEqual(mix.means(), Numbers.of_ratios(shares))
                firm = plain_firm(table, q, shares)
                self.assertTrue(all(z in firm for z in weights))
                self.check_misses(table, q, shares, depth_of(shares), weights)

    def check_misses(self, table, q, shares, k, weights):
        misses = {z: plain_miss(table, shares, z) for z in weights}
        for i, toll in enumerate(q):
            self.assertTrue(all(abs(misses[z][i]) <= (1 - Fraction(1, 2 ** k)) * toll for z in weights))
            square = sum(weights[z] * misses[z][i] ** 2 for z in weights)
            self.assertLessEqual(square, (1 - Fraction(1, 4 ** k)) * toll ** 2 / 3)
            self.assertLessEqual(sum(weights[z] * abs(misses[z][i]) for z in weights), Fraction(toll, 2))
            for j in range(k + 2):
                far = [weights[z] for z in weights if abs(misses[z][i]) > (1 - Fraction(1, 2 ** j)) * toll]
                self.assertLessEqual(sum(far), Fraction(1, 2 ** j))

    def test_depth_eight_and_seven_columns(self):
        table = Table.chain(7)
        shares = Numbers(some_numbers(7, 5, 1, 255)[:6] + [1], 256)
        mix = halves_mix(table, (1,) * 6, shares)
        self.assertEqual(mix.means(), shares)
        self.assertEqual({z: Fraction(*w) for z, w in mix}, plain_halves(table, (1,) * 6, list(shares)))

    def test_errors(self):
        wide = Table.zeros(1, 8)
        for wrong in WRONG_KINDS:
            self.assertEqual(error_of(halves_mix, wide, wrong, None), ("BadTolls", -1))
            self.assertEqual(error_of(halves_mix, wide, (1,), wrong), ("BadShares", -1))
        self.assertEqual(error_of(halves_mix, wide, (1, 1), None), ("OtherSize", 1))
        self.assertEqual(error_of(halves_mix, wide, (1,), [(1, 3), 2]), ("BadShares", 1))
        self.assertEqual(error_of(halves_mix, wide, (1,), [(1, 3)]), ("OtherSize", 8))
        self.assertEqual(error_of(halves_mix, wide, (1,), [(1, 3)] * 8), ("NotFitting", "shares"))
        self.assertEqual(error_of(halves_mix, wide, (1,), [(1, 3 * 512)] * 8), ("NotFitting", "shares"))
        self.assertEqual(error_of(halves_mix, wide, (1,), [(1, 512)] * 8), ("TooMany", 8))
        self.assertEqual(error_of(halves_mix, wide, (1,), [(1, 256)] * 8), ("TooMany", 7))
        self.assertEqual(error_of(halves_mix, T, (1, 1), [(1, 512)] * 2), ("TooMany", 8))
        self.assertEqual(error_of(halves_mix, T, (1, 1), [(1, 256)] * 2), ("NotServing", (0, 1)))
        self.assertEqual(error_of(halves_mix, T, (0, 1), [0, 1]), ("NotServing", (0,)))


class HalvesDecideTest(unittest.TestCase):
    def test_halves_decide(self):
        for table in some_tables(40, 62, (1, 3), (1, 3), 3):
            good = {}
            for shares in itertools.product((0, (1, 2)), repeat=table.columns):
                good[shares] = [plain_miss(table, shares, z) for z in plain_roundings(shares)]
            for q in all_tolls(table.height, 4):
                each = all(any(all(2 * abs(a) <= toll for a, toll in zip(misses, q)) for misses in rows)
                           for rows in good.values())
                self.assertEqual(serves(table, q), each)


if __name__ == "__main__":
    unittest.main()
