"""Rows of numbers, and the rows of numbers, integers and shares that are handed in."""

import itertools
import unittest
from fractions import Fraction

from makers import WRONG_INTEGERS, WRONG_KINDS, error_of
from splitnumbers.numbers import Numbers, numbers_of, shares_of
from splitnumbers.tables import Table

ROWS = [(tops, bottom) for tops in itertools.product((-3, 0, 2, 4), repeat=2) for bottom in (1, 2, 6)]


def fractions_of(row):
    return [Fraction(*ratio) for ratio in row]


def told(fraction):
    return (fraction.numerator, fraction.denominator)


class NumbersTest(unittest.TestCase):
    def test_lowest_terms(self):
        for tops, bottom in ROWS:
            row = Numbers(tops, bottom)
            self.assertEqual(fractions_of(row), [Fraction(top, bottom) for top in tops])
            self.assertEqual(Numbers(list(row.tops), row.bottom).bottom, row.bottom)
            self.assertEqual(row.bottom, Numbers.common_bottom([(top, bottom) for top in tops]))
        row = Numbers([4, 6], 8)
        self.assertEqual((row.tops, row.bottom), ((2, 3), 4))
        self.assertEqual((Numbers([]).tops, Numbers([], 5).bottom), ((), 1))
        self.assertEqual((Numbers([0, 0], 7).tops, Numbers([0, 0], 7).bottom), ((0, 0), 1))
        self.assertIs(type(row.tops), tuple)

    def test_errors_of_making(self):
        for value in WRONG_KINDS + (Numbers([1]), Table([(1,)])):
            self.assertEqual(error_of(Numbers, value), ("BadNumbers", -1), value)
        for value in WRONG_INTEGERS:
            self.assertEqual(error_of(Numbers, [1, 2, value, None]), ("BadNumbers", 2))
            self.assertEqual(error_of(Numbers, [1], value), ("BadNumber", "bottom"))
        for value in (0, -1):
            self.assertEqual(error_of(Numbers, [1], value), ("BadNumber", "bottom"))
        self.assertEqual(error_of(Numbers, [None], 0), ("BadNumbers", 0))

    def test_is_whole(self):
        self.assertIs(Numbers([2, 4], 2).is_whole, True)
        self.assertIs(Numbers([2, 3], 2).is_whole, False)
        self.assertIs(Numbers([]).is_whole, True)

    def test_of_ratios_and_common_bottom(self):
        row = Numbers.of_ratios([1, (1, 2), [2, 6]])
        self.assertEqual((row.tops, row.bottom), ((6, 3, 2), 6))
        self.assertEqual(Numbers.of_ratios(()), Numbers([]))
        self.assertEqual(Numbers.common_bottom([1, (3, 6), (1, 3), (1, 4)]), 12)
        self.assertEqual(Numbers.common_bottom([]), 1)
        self.assertEqual(row.common_bottom([(1, 5)]), 5)
        for call in (Numbers.of_ratios, Numbers.common_bottom):
            for value in WRONG_KINDS + (Numbers([1]),):
                self.assertEqual(error_of(call, value), ("BadNumbers", -1))
            for value in (None, True, (1, 0), (1,), "1"):
                self.assertEqual(error_of(call, [1, value, None]), ("BadNumbers", 1))

    def test_sum_difference_contrary(self):
        for (one, low), (other, under) in itertools.product(ROWS[::2], ROWS[::3]):
            x, y = Numbers(one, low), Numbers(other, under)
            self.assertEqual(fractions_of(x + y), [a + b for a, b in zip(fractions_of(x), fractions_of(y))])
            self.assertEqual(fractions_of(x - y), [a - b for a, b in zip(fractions_of(x), fractions_of(y))])
            self.assertEqual(fractions_of(-x), [-a for a in fractions_of(x)])
        self.assertEqual((Numbers([1], 2) + Numbers([1], 2)).bottom, 1)

    def test_sum_of_other_lengths_and_kinds(self):
        two, three = Numbers([1, 2]), Numbers([1, 2, 3])
        self.assertEqual(error_of(lambda: two + three), ("OtherSize", 2))
        self.assertEqual(error_of(lambda: three - two), ("OtherSize", 3))
        for wrong in ((1, 2), 1, None):
            with self.assertRaises(TypeError):
                two + wrong
            with self.assertRaises(TypeError):
                two - wrong

    def test_times_an_integer(self):
        for tops, bottom in ROWS:
            row = Numbers(tops, bottom)
            for k in range(-3, 4):
                self.assertEqual(fractions_of(k * row), [k * a for a in fractions_of(row)])
                self.assertEqual(row * k, k * row)
        for wrong in (True, 1.5, Numbers([1])):
            with self.assertRaises(TypeError):
                Numbers([1]) * wrong
        with self.assertRaises(TypeError):
            True * Numbers([1])

    def test_equality(self):
        self.assertTrue(Numbers([2, 4], 2) == Numbers((1, 2)))
        self.assertFalse(Numbers([1, 2]) == Numbers([1, 2], 3))
        self.assertFalse(Numbers([1, 2]) == Numbers([2, 1]))
        self.assertFalse(Numbers([1, 2]) == (1, 2))
        self.assertTrue(Numbers([1, 2]) != Numbers([1, 2, 0]))

    def test_length_entries_iteration(self):
        row = Numbers([4, -3, 0], 6)
        self.assertEqual(len(row), 3)
        self.assertEqual(list(row), [(2, 3), (-1, 2), (0, 1)])
        self.assertEqual([row[j] for j in range(3)], [(2, 3), (-1, 2), (0, 1)])
        for wrong in (-1, 3, True, None, "0", 0.0, slice(0, 2)):
            with self.assertRaises(IndexError):
                row[wrong]
        with self.assertRaises(IndexError):
            Numbers([])[0]

    def test_dot(self):
        row = Numbers([1, 3], 4)
        self.assertEqual(row.dot([2, 2]), (2, 1))
        self.assertEqual(row.dot((1, -1)), (-1, 2))
        self.assertEqual(row.dot(Numbers([1, 2], 3)), (7, 12))
        self.assertEqual(Numbers([]).dot([]), (0, 1))
        self.assertEqual(error_of(row.dot, 5), ("BadNumbers", -1))
        self.assertEqual(error_of(row.dot, [1, (1, 2), 3]), ("BadNumbers", 1))
        self.assertEqual(error_of(row.dot, [1]), ("OtherSize", 2))
        self.assertEqual(error_of(row.dot, Numbers([1, 2, 3])), ("OtherSize", 2))

    def test_scaled(self):
        row = Numbers([2, 3], 4)
        self.assertEqual(row.scaled((2, 3)), Numbers([2, 3], 6))
        self.assertEqual(row.scaled(-4), Numbers([-2, -3]))
        self.assertEqual(row.scaled([0, 5]), Numbers([0, 0]))
        self.assertEqual(error_of(row.scaled, (1, 0)), ("BadRatio", "value"))

    def test_greatest_size(self):
        self.assertEqual(Numbers([1, -3, 2], 6).greatest_size(), (1, 2))
        self.assertEqual(Numbers([]).greatest_size(), (0, 1))
        self.assertEqual(Numbers([0]).greatest_size(), (0, 1))

    def test_placed(self):
        row = Numbers([1, 2, 3], 2)
        self.assertEqual(list(row.placed(1, (1, 3))), [(1, 2), (1, 3), (3, 2)])
        self.assertEqual(list(row.placed(0, 4)), [(4, 1), (1, 1), (3, 2)])
        self.assertEqual(list(row), [(1, 2), (1, 1), (3, 2)])
        for wrong in (-1, 3, True, None, "1"):
            self.assertEqual(error_of(row.placed, wrong, None), ("BadSpot", "place"))
        self.assertEqual(error_of(row.placed, 2, (1, 0)), ("BadRatio", "value"))

    def test_numbers_of(self):
        self.assertEqual(numbers_of([1, -2], 2), Numbers([1, -2]))
        self.assertEqual(numbers_of(Numbers([1, 3], 2), 2), Numbers([1, 3], 2))
        self.assertEqual(numbers_of((), 0), Numbers([]))
        for value in WRONG_KINDS:
            self.assertEqual(error_of(numbers_of, value, 2), ("BadNumbers", -1))
        self.assertEqual(error_of(numbers_of, [1, 2, (1, 2)], 2), ("BadNumbers", 2))
        self.assertEqual(error_of(numbers_of, [True, 2], 5), ("BadNumbers", 0))
        self.assertEqual(error_of(numbers_of, [1, 2, 3], 2), ("OtherSize", 2))
        self.assertEqual(error_of(numbers_of, Numbers([1]), 2), ("OtherSize", 2))

    def test_shares_of(self):
        self.assertEqual(shares_of([0, 1, (2, 6), [1, 2]], 4), Numbers([0, 6, 2, 3], 6))
        self.assertEqual(shares_of(Numbers([1, 2], 2), 2), Numbers([1, 2], 2))
        self.assertEqual(shares_of([], 0), Numbers([]))
        for value in WRONG_KINDS:
            self.assertEqual(error_of(shares_of, value, 2), ("BadShares", -1))
        for value in (-1, 2, (3, 2), (-1, 2), (1, 0), True, None, "1", (1,)):
            self.assertEqual(error_of(shares_of, [1, value, None], 2), ("BadShares", 1), value)
        self.assertEqual(error_of(shares_of, Numbers([0, 3, 4], 2), 2), ("BadShares", 1))
        self.assertEqual(error_of(shares_of, Numbers([0, 1, -1], 2), 3), ("BadShares", 2))
        self.assertEqual(error_of(shares_of, [1, 0], 3), ("OtherSize", 3))
        self.assertEqual(error_of(shares_of, Numbers([1]), 0), ("OtherSize", 0))

    def test_what_is_handed_in_stays(self):
        tops = [2, 4]
        row = Numbers(tops, 2)
        tops[0] = 9
        self.assertEqual(row.tops, (1, 2))
        pair = [1, 2]
        given = [pair, 1]
        shares = shares_of(given, 2)
        self.assertEqual(given, [[1, 2], 1])
        pair[0] = 0
        self.assertEqual(list(shares), [(1, 2), (1, 1)])


if __name__ == "__main__":
    unittest.main()
