"""Ratios: lowest terms, arithmetic, order, errors."""

import itertools
import unittest
from fractions import Fraction

from makers import WRONG_KINDS, error_of
from splitnumbers import ratios
from splitnumbers.ratios import (greatest_ratio, least_ratio, ratio_at_most, ratio_less, ratio_of, ratio_over,
                                 ratio_size, ratio_sum, ratio_times)

SMALL = [(top, bottom) for top in range(-4, 5) for bottom in range(1, 5)]
WRONG = (None, True, "1", 1.0, (), (1,), (1, 2, 3), (1, 0), (1, -2), (True, 2), (1, True), (1, "2"), (1.0, 2),
         [None, 1], {1: 2}, "12", b"12")


def told(fraction):
    return (fraction.numerator, fraction.denominator)


class RatioTest(unittest.TestCase):
    def test_ratio_of(self):
        for top, bottom in SMALL:
            self.assertEqual(ratio_of((top, bottom)), told(Fraction(top, bottom)))
            self.assertEqual(ratio_of([top, bottom]), told(Fraction(top, bottom)))
        self.assertEqual(ratio_of(7), (7, 1))
        self.assertEqual(ratio_of(-7), (-7, 1))
        self.assertEqual(ratio_of((0, 9)), (0, 1))
        self.assertEqual(ratio_of((10 ** 30, 2 * 10 ** 30)), (1, 2))
        self.assertIs(type(ratio_of([1, 2])), tuple)

    def test_ratio_of_wrong_values(self):
        for value in WRONG:
            self.assertEqual(error_of(ratio_of, value), ("BadRatio", "ratio"), value)

    def test_arithmetic(self):
        for one, other in itertools.product(SMALL, SMALL):
            x, y = Fraction(*one), Fraction(*other)
            self.assertEqual(ratio_sum(one, list(other)), told(x + y))
            self.assertEqual(ratio_less(list(one), other), told(x - y))
            self.assertEqual(ratio_times(one, other), told(x * y))
            self.assertEqual(ratio_over(one, other), told(x / y) if y else None)
            self.assertIs(ratio_at_most(one, other), x <= y)
        self.assertEqual(ratio_sum(1, (1, 2)), (3, 2))
        self.assertEqual(ratio_less(1, (1, 2)), (1, 2))
        self.assertEqual(ratio_times(3, (1, 6)), (1, 2))
        self.assertEqual(ratio_over(3, -6), (-1, 2))
        self.assertIsNone(ratio_over(1, 0))
        self.assertIs(ratio_at_most(2, 2), True)

    def test_errors_of_two(self):
        for call in (ratio_sum, ratio_less, ratio_times, ratio_over, ratio_at_most):
            for value in WRONG:
                self.assertEqual(error_of(call, value, 1), ("BadRatio", "one"))
                self.assertEqual(error_of(call, 1, value), ("BadRatio", "other"))
                self.assertEqual(error_of(call, value, value), ("BadRatio", "one"))

    def test_size(self):
        for top, bottom in SMALL:
            self.assertEqual(ratio_size((top, bottom)), told(abs(Fraction(top, bottom))))
        self.assertEqual(ratio_size(-3), (3, 1))
        self.assertEqual(error_of(ratio_size, "x"), ("BadRatio", "value"))

    def test_greatest_and_least(self):
        for three in itertools.product(SMALL[::3], repeat=3):
            fractions = [Fraction(*ratio) for ratio in three]
            self.assertEqual(greatest_ratio(three), told(max(fractions)))
            self.assertEqual(least_ratio(list(three)), told(min(fractions)))
        self.assertEqual(greatest_ratio([2, (5, 2), 1]), (5, 2))
        self.assertEqual((least_ratio(((2, 4),)), greatest_ratio([(2, 4)])), ((1, 2), (1, 2)))

    def test_errors_of_greatest_and_least(self):
        for call in (greatest_ratio, least_ratio):
            for value in WRONG_KINDS + ((), []):
                self.assertEqual(error_of(call, value), ("BadNumber", "ratios"), value)
            for value in WRONG:
                self.assertEqual(error_of(call, [1, value]), ("BadRatio", "ratios"), value)

    def test_defined_here(self):
        for call in (ratio_of, ratio_sum, ratio_less, ratio_times, ratio_over, ratio_at_most, ratio_size,
                     greatest_ratio, least_ratio):
            self.assertEqual(call.__module__, ratios.__name__)


if __name__ == "__main__":
    unittest.main()
