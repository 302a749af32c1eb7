"""Doubles and carries, roundings, their misses, firm ones."""

import itertools
import unittest
from fractions import Fraction

from makers import WRONG_KINDS, all_tolls, error_of, first_of, plain_signs, some_tables
from rounders import fractions_of, plain_firm, plain_miss, plain_roundings
from splitnumbers.numbers import Numbers
from splitnumbers.roundings import (broken_places, doubled, firm_roundings, halved, is_firm_rounding, miss, odd_part,
                                    rounding_from, roundings_of)
from splitnumbers.tables import Table

T = Table([(1, 2, 3), (0, -1, 1)])
SHARES = [(0, 1), (1, 3), (1, 2), (3, 4), (1, 1)]
BAD_SHARES = (2, -1, (3, 2), (1, 0), True, None, "1")


class SharesTest(unittest.TestCase):
    def test_doubled(self):
        carry, double = doubled([0, (1, 3), (1, 2), (3, 4), 1])
        self.assertEqual(carry, (0, 0, 1, 1, 2))
        self.assertEqual(double, Numbers.of_ratios([0, (2, 3), 0, (1, 2), 0]))
        self.assertEqual(doubled(()), ((), Numbers([])))
        self.assertEqual(doubled(Numbers([1, 2, 3], 3)), ((0, 1, 2), Numbers([2, 1, 0], 3)))
        for shares in itertools.product(SHARES, repeat=3):
            carry, double = doubled(shares)
            self.assertEqual([c + d for c, d in zip(carry, fractions_of(double))], [2 * Fraction(*w) for w in shares])
            self.assertTrue(all(0 <= d < 1 for d in fractions_of(double)))

    def test_broken_places(self):
        self.assertEqual(broken_places([0, (1, 3), 1, (1, 2)]), (1, 3))
        self.assertEqual(broken_places([(2, 2), (0, 5)]), ())
        self.assertEqual(broken_places(Numbers([])), ())

    def test_errors(self):
        for call in (doubled, broken_places, lambda shares: first_of(roundings_of(shares))):
            for wrong in WRONG_KINDS:
                self.assertEqual(error_of(call, wrong), ("BadShares", -1))
            for wrong in BAD_SHARES:
                self.assertEqual(error_of(call, [0] * 13 + [wrong, None]), ("BadShares", 13))
            self.assertEqual(error_of(call, Numbers([1, 3], 2)), ("BadShares", 1))

    def test_roundings_of(self):
        self.assertEqual(list(roundings_of([(1, 2), 1, (1, 3)])), [(0, 1, 0), (0, 1, 1), (1, 1, 0), (1, 1, 1)])
        self.assertEqual(list(roundings_of(())), [()])
        self.assertEqual(list(roundings_of([0, 1])), [(0, 1)])
        for shares in itertools.product(SHARES, repeat=3):
            self.assertEqual(list(roundings_of(shares)), plain_roundings(shares))
        self.assertEqual(len(list(roundings_of([(1, 2)] * 7 + [0, 1] * 6))), 128)
        self.assertEqual(error_of(first_of, roundings_of([(1, 2)] * 8)), ("TooMany", 7))
        self.assertEqual(error_of(first_of, roundings_of([(1, 2)] * 8 + [2])), ("BadShares", 8))

    def test_roundings_of_is_a_generator(self):
        generator = roundings_of(5)
        self.assertEqual(error_of(next, generator), ("BadShares", -1))
        shares = [(1, 2), (1, 2)]
        generator = roundings_of(shares)
        self.assertEqual(next(generator), (0, 0))
        shares[1] = 1
        self.assertEqual(list(generator), [(0, 1), (1, 0), (1, 1)])


class RoundingTest(unittest.TestCase):
    def test_rounding_from(self):
        self.assertEqual(rounding_from([1, 0, 1], [(1, 2), 0, 1]), (1, 0, 1))
        self.assertEqual(rounding_from((), ()), ())
        for shares in itertools.product(SHARES, repeat=2):
            good = plain_roundings(shares)
            for z in itertools.product((0, 1), repeat=2):
                self.assertEqual(error_of(rounding_from, z, shares) is None, z in good)

    def test_wrong_roundings_everywhere(self):
        shares = [(1, 2), 0, 1]
        calls = [lambda z: rounding_from(z, shares), lambda z: miss(T, shares, z),
                 lambda z: is_firm_rounding(T, (1, 1), shares, z)]
        for call in calls:
            for wrong in WRONG_KINDS + ((1, 0), (1, 0, 1, 1), (), Numbers([1, 0, 1])):
                self.assertEqual(error_of(call, wrong), ("BadRounding", -1), wrong)
            for wrong in (2, -1, True, None, "1", 1.0, (1, 1)):
                self.assertEqual(error_of(call, [wrong, 7, 7]), ("BadRounding", 0))
            self.assertEqual(error_of(call, [1, 1, 0]), ("BadRounding", 1))
            self.assertEqual(error_of(call, [1, 0, 0]), ("BadRounding", 2))
        self.assertEqual(error_of(rounding_from, None, [2]), ("BadShares", 0))
        self.assertEqual(error_of(rounding_from, [0], None), ("BadShares", -1))

    def test_miss(self):
        self.assertEqual(miss(T, [(1, 2), (1, 3), 1], (1, 0, 1)), Numbers([-1, 2], 6))
        self.assertEqual(miss(Table.zeros(0, 1), [(1, 2)], [1]), Numbers([]))
        for k, table in enumerate(some_tables(30, seed=41, heights=(1, 3), widths=(2, 3))):
            for shares in itertools.product(SHARES[k % 2:], repeat=table.columns):
                for z in plain_roundings(shares):
                    self.assertEqual(fractions_of(miss(table, shares, z)), plain_miss(table, shares, z))
        self.assertEqual(error_of(miss, T, None, None), ("BadShares", -1))
        self.assertEqual(error_of(miss, T, [0, 5], None), ("BadShares", 1))
        self.assertEqual(error_of(miss, T, [0, 1], None), ("OtherSize", 3))

    def test_odd_part_and_halved(self):
        self.assertEqual(odd_part((0, 1, 1, 2), (1, 0, 1, 0)), (0, 1))
        self.assertEqual(halved((0, 1, 1, 2), (1, 0, 1, 0), (1, -1, 0, 0)), (1, 0, 1, 1))
        self.assertEqual(error_of(halved, (0, 1), (1, 1), (0, 0)), ("NotFitting", "signs"))
        self.assertEqual(error_of(halved, (0, 1), (1, 1), (1, 1)), ("NotFitting", "signs"))
        self.assertEqual(error_of(halved, (0, 1), (1, 1), (0, 1)), ("NotFitting", "signs"))

    def test_halves_are_roundings_with_half_the_miss(self):
        for table in some_tables(12, seed=42, heights=(1, 3), widths=(3, 3)):
            for shares in itertools.product(SHARES, repeat=3):
                carry, double = doubled(shares)
                for z in roundings_of(double):
                    part = odd_part(carry, z)
                    for x in plain_signs(part, 3):
                        half = halved(carry, z, x)
                        self.assertEqual(rounding_from(half, shares), half)
                        both = miss(table, double, z) + Numbers(table(x))
                        self.assertEqual(miss(table, shares, half), both.scaled((1, 2)))


class FirmTest(unittest.TestCase):
    def test_small_cases(self):
        half = [(1, 2), (1, 2), (1, 2)]
        self.assertEqual(firm_roundings(T, (2, 1), half), [(0, 0, 0), (0, 1, 1), (1, 0, 0), (1, 1, 1)])
        self.assertEqual(firm_roundings(T, (1, 2), half), [(0, 0, 1), (1, 1, 0)])
        self.assertEqual(firm_roundings(T, [1, 1], half), [])
        self.assertEqual(firm_roundings(Table([(4,)]), (1,), [(1, 2)]), [])
        self.assertEqual(firm_roundings(Table([(2,)]), (0,), [(1, 2)]), [])
        self.assertEqual(firm_roundings(Table([(2,)]), (2,), [(1, 2)]), [(0,), (1,)])
        self.assertEqual(firm_roundings(Table.zeros(0, 2), (), [0, 1]), [(0, 1)])

    def test_against_all_roundings(self):
        for table in some_tables(25, seed=43, heights=(1, 3), widths=(2, 3)):
            for tolls in all_tolls(table.height, 2):
                for shares in itertools.product(SHARES[1:4], repeat=table.columns):
                    plain = plain_firm(table, tolls, shares)
                    self.assertEqual(firm_roundings(table, tolls, shares), plain)
                    for z in plain_roundings(shares):
                        self.assertIs(is_firm_rounding(table, tolls, shares, z), z in plain)

    def test_twelve_columns(self):
        table = Table.unit(12)
        shares = [(1, 2)] * 7 + [1] * 5
        self.assertEqual(len(firm_roundings(table, (1,) * 12, shares)), 128)
        self.assertEqual(error_of(firm_roundings, table, (1,) * 12, [(1, 2)] * 8 + [1] * 4), ("TooMany", 7))

    def test_errors(self):
        for call in (lambda tolls, shares: firm_roundings(T, tolls, shares),
                     lambda tolls, shares: is_firm_rounding(T, tolls, shares, None)):
            for wrong in WRONG_KINDS:
                self.assertEqual(error_of(call, wrong, None), ("BadTolls", -1))
                self.assertEqual(error_of(call, (1, 1), wrong), ("BadShares", -1))
            self.assertEqual(error_of(call, (1, -1), None), ("BadTolls", 1))
            self.assertEqual(error_of(call, (1, 1, 1), None), ("OtherSize", 2))
            self.assertEqual(error_of(call, (1, 1), [0, 2]), ("BadShares", 1))
            self.assertEqual(error_of(call, (1, 1), [0, 1]), ("OtherSize", 3))


if __name__ == "__main__":
    unittest.main()
