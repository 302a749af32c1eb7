"""EVEN of parts and tables, mixes of signs with small mean squares, and the weights that show there are none."""

import itertools
import unittest
from fractions import Fraction

from firmers import firm_tables
from makers import (WRONG_INTEGERS, WRONG_KINDS, all_tables, all_tolls, error_of, long_numbers, plain_failing, plain_parts,
                    plain_signs, plain_sums, serving_tolls, some_numbers, some_tables)
from rounders import told
from splitnumbers.games import even_failing, even_of, even_part, even_serves, part_game, square_mix, square_weights
from splitnumbers.joining import at_column, at_row, blocks_table
from splitnumbers.leasts import least_equal, least_tolls
from splitnumbers.mixes import SignMix
from splitnumbers.numbers import Numbers
from splitnumbers.squaring import mean_squares
from splitnumbers.tables import Table

TWO = Table([(1, 1), (1, -1)])
WRONG_RATIOS = (None, True, "1", 1.0, (1, 0), (1, -1), (1, 2, 3), [1], -1, (-1, 7))


def fraction(ratio):
    return Fraction(*ratio)


def squares_in(table, part):
    return [[total * total for total in plain_sums(table, x)] for x in plain_signs(part, table.columns)]


def some_squares(height, seed, bottom=3):
    return tuple((top, bottom) for top in some_numbers(height, seed, 0, 5 * bottom))


class GameCase(unittest.TestCase):
    def check_mix(self, table, part, mix, squares):
        self.assertIs(type(mix), SignMix)
        self.assertEqual(mix.signed_part(), part)
        self.assertEqual(mix.size, table.columns)
        for mean, square in zip(mean_squares(table, mix), squares):
            self.assertLessEqual(fraction(mean), fraction(square) if isinstance(square, tuple) else square)

    def check_weights(self, table, part, weights, squares):
        """Whether the weights show that no mix of the part has these mean squares."""
        self.assertIs(type(weights), tuple)
        values = [fraction(weight) for weight in weights]
        self.assertEqual([told(value) for value in values], list(weights))
        self.assertEqual(len(values), table.height)
        self.assertTrue(min(values) >= 0)
        bound = sum(v * (fraction(t) if isinstance(t, tuple) else t) for v, t in zip(values, squares))
        for row in squares_in(table, part):
            self.assertGreater(sum(v * s for v, s in zip(values, row)), bound)


class PartGameTest(GameCase):
    def check(self, table, part):
        value, mix, weights = part_game(table, part)
        self.assertEqual(value, told(fraction(value)))
        self.check_mix(table, part, mix, [value] * table.height)
        values = [fraction(weight) for weight in weights]
        self.assertEqual([told(v) for v in values], list(weights))
        self.assertEqual((len(values), sum(values)), (table.height, 1))
        self.assertTrue(min(values) >= 0)
        rows = squares_in(table, part)
        for row in rows:
            self.assertGreaterEqual(sum(v * s for v, s in zip(values, row)), fraction(value))
            self.assertLessEqual(fraction(value), max(row))
        self.assertTrue(any(fraction(value) >= Fraction(sum(row), table.height) for row in rows))
        self.assertEqual(part_game(table, part), (value, mix, weights))
        return value

    def test_small_cases(self):
        value, mix, weights = part_game(TWO, (0, 1))
        self.assertEqual((value, mean_squares(TWO, mix), weights), ((2, 1), ((2, 1), (2, 1)), ((1, 2), (1, 2))))
        self.assertEqual(part_game(TWO, [1, 0])[0], (2, 1))
        self.assertEqual(part_game(TWO, (0,))[0], (1, 1))
        value, mix, weights = part_game(TWO, ())
        self.assertEqual((value, mix.entries), ((0, 1), (((0, 0), (1, 1)),)))
        self.check(TWO, ())
        # Squares of 0 in all rows, and in one row alone.
        self.check(Table.zeros(3, 2), (0, 1))
        self.assertEqual(part_game(Table([(1, 1)]), (0, 1))[0], (0, 1))
        self.assertEqual(part_game(Table([(1, 1), (0, 0), (3, 3)]), (0, 1))[0], (0, 1))
        self.assertEqual(part_game(Table([(5, 3)]), (0, 1))[0], (4, 1))
        self.assertEqual(part_game(Table([(3, -4), (4, 3)]), (0, 1))[0], (25, 1))

    def test_all_parts(self):
        bottoms = set()
        for table in list(some_tables(70, 411, (1, 4), (1, 4), 3)) + list(some_tables(12, 412, (1, 12), (5, 5), 4)):
            parts = plain_parts(table.columns)
            for part in parts if table.columns < 5 else parts[::5]:
                bottoms.add(self.check(table, part)[1])
        self.assertTrue({1, 2} < bottoms)

    def test_long_numbers(self):
        table = Table([long_numbers(5, seed) for seed in range(12)])
        for part in ((0,), (1, 3), (0, 1, 2, 3, 4)):
            self.check(table, part)

    def test_firm_tables(self):
        for table in firm_tables(40, 413, (1, 4), (1, 5)):
            self.assertTrue(even_serves(table, (1,) * table.height))
            for part in plain_parts(table.columns):
                odd = any(sum(row[j] for j in part) % 2 for row in table.rows)
                self.assertEqual(part_game(table, part)[0], (int(odd), 1))

    def test_errors(self):
        table = Table.zeros(0, 6)
        for wrong in WRONG_KINDS:
            self.assertEqual(error_of(part_game, table, wrong), ("BadSet", -1))
        for wrong in WRONG_INTEGERS + (-1, 6, 0):
            self.assertEqual(error_of(part_game, table, (0, wrong, None)), ("BadSet", 1))
        self.assertEqual(error_of(part_game, table, (0,)), ("TooMany", 5))
        self.assertEqual(error_of(part_game, Table.zeros(0, 5), (0,)), ("NotFitting", "rows"))
        self.assertEqual(error_of(part_game, Table.zeros(0, 5), ()), ("NotFitting", "rows"))
        self.assertIsNone(error_of(part_game, Table.zeros(1, 5), ()))


class EvenTest(GameCase):
    def test_small_cases(self):
        self.assertEqual((even_of(TWO), even_part(TWO)), ((2, 1), (0, 1)))
        self.assertEqual((even_of(Table.zeros(2, 3)), even_part(Table.zeros(2, 3))), ((0, 1), (0,)))
        self.assertEqual((even_of(Table([(0, -3, 3)])), even_part(Table([(0, -3, 3)]))), ((9, 1), (1,)))
        self.assertEqual(least_tolls(TWO), [(1, 2), (2, 1)])

    def test_the_greatest_of_all_parts(self):
        for table in some_tables(40, 414, (1, 4), (1, 4), 3):
            parts = plain_parts(table.columns)
            values = [fraction(part_game(table, part)[0]) for part in parts]
            self.assertEqual(even_of(table), told(max(values)))
            self.assertEqual(even_part(table), parts[values[1:].index(max(values)) + 1])
            self.assertLessEqual(max(values), least_equal(table) ** 2)

    def test_equal_squares(self):
        for table in some_tables(30, 415, (1, 3), (1, 4), 3):
            least = even_of(table)
            less = [told(fraction(least) - Fraction(1, 50))] * table.height
            self.assertTrue(even_serves(table, [least] * table.height))
            self.assertTrue(even_serves(table, [told(fraction(least) + Fraction(1, 50))] * table.height))
            if least[0]:
                self.assertFalse(even_serves(table, less))
            for part in plain_parts(table.columns):
                value = part_game(table, part)[0]
                self.assertIsNotNone(square_mix(table, part, [value] * table.height))
                if value[0]:
                    below = [told(fraction(value) * Fraction(99, 100))] * table.height
                    self.assertIsNone(square_mix(table, part, below))

    def test_one_row(self):
        for row in itertools.product(range(-3, 4), repeat=3):
            greatest = max(map(abs, row))
            self.assertEqual(even_of(Table([row])), (greatest ** 2, 1))
            self.assertTrue(even_serves(Table([row]), (greatest ** 2,)))
            if greatest:
                self.assertFalse(even_serves(Table([row]), [(100 * greatest ** 2 - 1, 100)]))

    def test_errors(self):
        for call in (even_of, even_part):
            self.assertEqual(error_of(call, Table.zeros(0, 6)), ("TooMany", 5))
            self.assertEqual(error_of(call, Table.zeros(0, 5)), ("NotFitting", "rows"))
            self.assertIsNone(error_of(call, Table.zeros(12, 5)))


class SquaresTest(GameCase):
    def test_small_cases(self):
        self.assertIs(even_serves(TWO, (1, 3)), True)
        self.assertIs(even_serves(TWO, (1, 2)), False)
        self.assertEqual(even_failing(TWO, (1, 2)), (0, 1))
        self.assertEqual(even_failing(TWO, (3, (1, 2))), (0,))
        self.assertIsNone(even_failing(TWO, Numbers([5, 3], 2)))
        self.assertIsNone(square_mix(TWO, (0, 1), (1, 2)))
        self.assertIsNone(square_weights(TWO, (0, 1), (1, 3)))
        self.check_mix(TWO, (0, 1), square_mix(TWO, [1, 0], [1, 3]), (1, 3))
        self.check_weights(TWO, (0, 1), square_weights(TWO, (0, 1), (1, (5, 2))), (1, (5, 2)))
        # The empty part, and tables without rows.
        self.assertEqual(square_mix(TWO, (), (0, 0)).entries, (((0, 0), (1, 1)),))
        self.assertIsNone(square_weights(TWO, (), (0, 0)))
        free = Table.zeros(0, 3)
        self.check_mix(free, (0, 2), square_mix(free, (0, 2), ()), ())
        self.assertIsNone(square_weights(free, (0, 2), []))
        self.assertIs(even_serves(free, ()), True)
        self.assertIsNone(even_failing(free, Numbers([])))
        # Squares of 0.
        self.assertEqual(even_failing(Table([(1, 1)]), (0,)), (0,))
        self.assertIs(even_serves(Table.zeros(2, 5), (0, 0)), True)
        self.check_mix(Table([(1, 1)]), (0, 1), square_mix(Table([(1, 1)]), (0, 1), (0,)), (0,))

    def test_one_of_both_exists(self):
        seen = {True: 0, False: 0}
        for k, table in enumerate(list(some_tables(60, 416, (0, 4), (1, 4), 2)) + list(some_tables(8, 417, (1, 12), (5, 5), 2))):
            squares = some_squares(table.height, 417 + 31 * k * k)
            failing = []
            for part in plain_parts(table.columns):
                mix = square_mix(table, part, squares)
                weights = square_weights(table, part, squares)
                self.assertIs(mix is None, weights is not None)
                seen[mix is None] += 1
                if mix is None:
                    failing.append(part)
                    self.check_weights(table, part, weights, squares)
                else:
                    self.check_mix(table, part, mix, squares)
            self.assertEqual(even_failing(table, squares), failing[0] if failing else None)
            self.assertIs(even_serves(table, squares), failing == [])
        self.assertTrue(min(seen.values()) > 100, seen)

    def test_two_rows_of_the_document(self):
        for t, u in itertools.product([Fraction(a, 4) for a in range(0, 17, 2)], repeat=2):
            serving = t >= 1 and u >= 1 and t + u >= 4
            self.assertIs(even_serves(TWO, (told(t), told(u))), serving)

    def test_greater_squares_and_lots(self):
        for k, table in enumerate(some_tables(40, 418, (1, 3), (2, 4), 2)):
            squares = [fraction(t) + 2 for t in some_squares(table.height, 419 + 31 * k * k)]
            if even_serves(table, [told(t) for t in squares]):
                more = [told(t + Fraction(i, 2)) for i, t in enumerate(squares)]
                self.assertTrue(even_serves(table, more))
                for rows in plain_parts(table.height):
                    for columns in plain_parts(table.columns)[1::3]:
                        self.assertTrue(even_serves(table.lot(rows, columns), [told(squares[i]) for i in rows]))

    def test_changed_tables(self):
        seen = {True: 0, False: 0}
        for k, table in enumerate(some_tables(40, 420, (1, 3), (1, 4), 2)):
            squares = some_squares(table.height, 421 + 31 * k * k)
            serving = even_serves(table, squares)
            seen[serving] += 1
            straight = list(range(table.height))
            same = [table.turned_row(0), table.turned_column(0), table.copied(0), -table,
                    table.exchanged(straight, list(range(table.columns))[::-1])]
            self.assertEqual([even_serves(other, squares) for other in same], [serving] * 5)
            turned = table.exchanged(straight[::-1], list(range(table.columns)))
            self.assertEqual(even_serves(turned, squares[::-1]), serving)
            for s in (-3, 2, 5):
                times = (told(fraction(squares[0]) * s * s),) + squares[1:]
                self.assertEqual(even_serves(table.times_row(0, s), times), serving)
        self.assertTrue(min(seen.values()) > 5, seen)

    def test_tolls_as_squares(self):
        for table in list(some_tables(50, 422, (0, 4), (1, 4), 3)):
            for tolls in (serving_tolls(table), serving_tolls(table, 1)):
                self.assertTrue(even_serves(table, [q * q for q in tolls]))
        for table in all_tables(2, 2, (-1, 1, 2)):
            for tolls in all_tolls(2, 4):
                if not plain_failing(table, tolls):
                    self.assertTrue(even_serves(table, [q * q for q in tolls]))

    def test_errors(self):
        wide = Table.zeros(2, 6)
        for call in (square_mix, square_weights):
            for wrong in WRONG_KINDS:
                self.assertEqual(error_of(call, wide, wrong, None), ("BadSet", -1))
                self.assertEqual(error_of(call, wide, (0,), wrong), ("BadNumbers", -1))
            for wrong in WRONG_INTEGERS + (-1, 6, 0):
                self.assertEqual(error_of(call, wide, (0, wrong, None), None), ("BadSet", 1))
            for wrong in WRONG_RATIOS:
                self.assertEqual(error_of(call, wide, (0,), (0, wrong, -5)), ("BadNumbers", 1))
            for squares in ((), (1,), [1] * 3, Numbers([1])):
                self.assertEqual(error_of(call, wide, (), squares), ("OtherSize", 2))
            self.assertEqual(error_of(call, wide, (), (0, 0)), ("TooMany", 5))
            self.assertIsNone(error_of(call, Table.zeros(12, 5), (), (0,) * 12))
        for call in (even_serves, even_failing):
            for wrong in WRONG_KINDS:
                self.assertEqual(error_of(call, wide, wrong), ("BadNumbers", -1))
            for wrong in WRONG_RATIOS:
                self.assertEqual(error_of(call, wide, (0, wrong, -5)), ("BadNumbers", 1))
            self.assertEqual(error_of(call, wide, (0,)), ("OtherSize", 2))
            self.assertEqual(error_of(call, wide, (0, 0)), ("TooMany", 5))


class JoinedTest(GameCase):
    def couples(self, seed):
        return zip(some_tables(30, seed, (1, 2), (1, 2), 2), some_tables(30, seed + 50, (1, 2), (1, 3), 2))

    def test_at_a_column_and_along_the_corner(self):
        seen = {True: 0, False: 0}
        for k, (one, other) in enumerate(self.couples(423)):
            squares = some_squares(one.height + other.height, 424 + 31 * k * k)
            first, second = squares[:one.height], squares[one.height:]
            both = even_serves(one, first) and even_serves(other, second)
            seen[both] += 1
            greatest = told(max(fraction(even_of(one)), fraction(even_of(other))))
            tables = [blocks_table(one, other)]
            tables += [at_column(one, j, other, l) for j in range(one.columns) for l in range(other.columns)]
            for joined in tables:
                self.assertEqual(even_serves(joined, squares), both)
                self.assertEqual(even_of(joined), greatest)
        self.assertTrue(min(seen.values()) > 3, seen)

    def test_at_a_row(self):
        for one, other in self.couples(425):
            for i, k in itertools.product(range(one.height), range(other.height)):
                joined = fraction(even_of(at_row(one, i, other, k)))
                least = max(fraction(even_of(one)), fraction(even_of(other)))
                self.assertGreaterEqual(joined, least)


if __name__ == "__main__":
    unittest.main()
