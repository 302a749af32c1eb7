"""Squares of sums, and mixes of signs that are balanced."""

import unittest
from fractions import Fraction

from makers import WRONG_INTEGERS, WRONG_KINDS, error_of, long_numbers, plain_signs, plain_sums, some_numbers, some_tables
from rounders import told
from splitnumbers.games import even_serves
from splitnumbers.mixes import Mix, RoundingMix, SignMix
from splitnumbers.numbers import Numbers
from splitnumbers.squaring import balanced, mean_squares, sum_squares
from splitnumbers.tables import Table

TWO = Table([(1, 1), (1, -1)])


def some_mixes(many, seed):
    """Tables with mixes of signs of some of their parts."""
    for k, table in enumerate(some_tables(many, seed, (0, 3), (1, 4), 3)):
        part = tuple(j for j in range(table.columns) if (k >> j) % 2)
        signs = plain_signs(part, table.columns)
        weights = some_numbers(len(signs), seed + 31 * k * k, 0, 4)
        weights[0] += 1
        total = sum(weights)
        yield table, SignMix([(x, (a, total)) for x, a in zip(signs, weights) if a])


class SumSquaresTest(unittest.TestCase):
    def test_small_cases(self):
        self.assertEqual(sum_squares(TWO, (1, 1)), (4, 0))
        self.assertEqual(sum_squares(TWO, [-1, 0]), (1, 1))
        self.assertEqual(sum_squares(TWO, (0, 0)), (0, 0))
        self.assertEqual(sum_squares(Table.zeros(0, 2), (1, 0)), ())
        big = 10 ** 30
        self.assertEqual(sum_squares(Table([(big,) * 12] * 12), (1,) * 12), (144 * big * big,) * 12)

    def test_contraries_have_the_same(self):
        for table in some_tables(40, 401, (0, 4), (1, 4), 3):
            for x in plain_signs(tuple(range(table.columns)), table.columns):
                squares = tuple(total * total for total in plain_sums(table, x))
                self.assertEqual(sum_squares(table, x), squares)
                self.assertEqual(sum_squares(table, tuple(-a for a in x)), squares)

    def test_errors(self):
        for wrong in WRONG_KINDS + (Numbers([0, 0]),):
            self.assertEqual(error_of(sum_squares, TWO, wrong), ("BadSigns", -1))
        for wrong in WRONG_INTEGERS + (2, -2):
            self.assertEqual(error_of(sum_squares, TWO, (1, wrong, None)), ("BadSigns", 1))
        for signs in ((), (1,), [1] * 3):
            self.assertEqual(error_of(sum_squares, TWO, signs), ("OtherSize", 2))


class MeanSquaresTest(unittest.TestCase):
    def test_small_cases(self):
        mix = SignMix([((1, 1), (2, 3)), ((1, -1), (1, 3))])
        self.assertEqual(mean_squares(TWO, mix), ((8, 3), (4, 3)))
        self.assertEqual(mean_squares(Table.zeros(0, 2), mix), ())
        self.assertEqual(mean_squares(TWO, SignMix([((0, 0), 1)])), ((0, 1), (0, 1)))

    def test_many_mixes(self):
        for table, mix in some_mixes(80, 402):
            means = [sum((Fraction(*weight) * plain_sums(table, x)[i] ** 2 for x, weight in mix), Fraction(0))
                     for i in range(table.height)]
            self.assertEqual(mean_squares(table, mix), tuple(told(mean) for mean in means))

    def test_errors(self):
        signs = SignMix([((1, 1, 1), 1)])
        others = (None, 5, (), [((1, 1), 1)], Mix([((1, 1), 1)]), RoundingMix([((1, 1), 1)]), TWO)
        for wrong in others:
            self.assertEqual(error_of(mean_squares, TWO, wrong), ("BadMix", -1))
            self.assertEqual(error_of(balanced, wrong), ("BadMix", -1))
        self.assertEqual(error_of(mean_squares, TWO, signs), ("OtherSize", 2))
        self.assertEqual(error_of(mean_squares, Table.zeros(0, 4), signs), ("OtherSize", 4))


class BalancedTest(unittest.TestCase):
    def test_small_cases(self):
        mix = SignMix([((1, 1), (2, 3)), ((1, -1), (1, 3))])
        half = balanced(mix)
        self.assertIs(type(half), SignMix)
        self.assertEqual(half.entries, (((-1, -1), (1, 3)), ((-1, 1), (1, 6)), ((1, -1), (1, 6)), ((1, 1), (1, 3))))
        self.assertEqual(mix.entries, (((1, -1), (1, 3)), ((1, 1), (2, 3))))
        # A mix of one tuple and its contrary, of one tuple, of zeros.
        both = SignMix([((1, -1), (1, 4)), ((-1, 1), (3, 4))])
        self.assertEqual(balanced(both).entries, (((-1, 1), (1, 2)), ((1, -1), (1, 2))))
        self.assertEqual(balanced(SignMix([((0, 1), 1)])).entries, (((0, -1), (1, 2)), ((0, 1), (1, 2))))
        self.assertEqual(balanced(SignMix([((0, 0), 1)])).entries, (((0, 0), (1, 1)),))

    def test_means_and_mean_squares(self):
        for table, mix in some_mixes(80, 403):
            half = balanced(mix)
            self.assertEqual(half.means(), Numbers([0] * table.columns))
            self.assertEqual(mean_squares(table, half), mean_squares(table, mix))
            self.assertEqual(half.signed_part(), mix.signed_part())
            self.assertEqual(balanced(half), half)
            weights = dict(half)
            for x, weight in weights.items():
                self.assertEqual(weights[tuple(-a for a in x)], weight)

    def test_long_weights(self):
        numbers = [abs(number) + 1 for number in long_numbers(3, 5)]
        mix = SignMix([((1, -1), (numbers[0], sum(numbers))), ((-1, 1), (numbers[1], sum(numbers))),
                       ((1, 1), (numbers[2], sum(numbers)))])
        half = balanced(mix)
        self.assertEqual(half.means(), Numbers([0, 0]))
        self.assertEqual(mean_squares(TWO, half), mean_squares(TWO, mix))


class SquaresTest(unittest.TestCase):
    def test_how_squares_are_taken(self):
        for squares in ((1, 3), [1, 3], Numbers([1, 3]), ((2, 2), (9, 3)), [[1, 1], 3]):
            self.assertTrue(even_serves(TWO, squares))
        self.assertTrue(even_serves(TWO, Numbers([4, 5], 2)))
        for wrong in WRONG_KINDS:
            self.assertEqual(error_of(even_serves, TWO, wrong), ("BadNumbers", -1))
        for wrong in (None, True, "1", 1.0, (1, 0), (1, -1), (1, 2, 3), [1], -1, (-1, 7)):
            self.assertEqual(error_of(even_serves, TWO, (0, wrong, -2)), ("BadNumbers", 1))
        self.assertEqual(error_of(even_serves, TWO, Numbers([1, -3, -2, 1], 7)), ("BadNumbers", 1))
        for squares in ((), (1,), [1] * 3, Numbers([1])):
            self.assertEqual(error_of(even_serves, TWO, squares), ("OtherSize", 2))


if __name__ == "__main__":
    unittest.main()
