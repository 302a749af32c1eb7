"""Bounds for determinants by tolls, and what determinants tell of tolls."""

import itertools
import unittest
from fractions import Fraction

from firmers import plain_firm_table, plain_squares
from makers import WRONG_INTEGERS, WRONG_KINDS, all_tables, error_of, plain_failing, plain_parts, some_tables
from splitnumbers.bounds import least_single, loose_bound, single_bound, square_bound, toll_product
from splitnumbers.determinants import determinant
from splitnumbers.leasts import least_equal, least_tolls
from splitnumbers.tables import Table
from splitnumbers.tolls import serves

NINE = Table([(1, 1, 1), (-1, 2, -1), (-1, -1, 2)])


def product(numbers):
    total = 1
    for number in numbers:
        total *= number
    return total


def plain_single(tolls, rows, r):
    return tolls[r] * product(2 * tolls[i] - 1 for i in rows if i != r)


def plain_loose(tolls, rows):
    loose = sum(1 for i in rows if tolls[i] > 1)
    whole = product(tolls[i] for i in rows)
    return Fraction(whole) if loose < 3 else Fraction(9 * whole, 8) if loose == 3 else None


def told(fraction):
    return None if fraction is None else (fraction.numerator, fraction.denominator)


class BoundsTest(unittest.TestCase):
    def test_small_cases(self):
        self.assertEqual(toll_product((2, 3, 5), (0, 2)), 10)
        self.assertEqual(toll_product((2, 3, 5), [2, 0, 1]), 30)
        self.assertEqual(toll_product((), ()), 1)
        self.assertEqual((single_bound((2, 3, 1), (0, 1, 2), 0), single_bound((2, 3, 1), [2, 1, 0], 1)), (10, 9))
        self.assertEqual(single_bound((2, 3, 1), (0, 1, 2), 2), 15)
        self.assertEqual(least_single((2, 3, 1), [0, 1, 2]), 9)
        self.assertEqual((loose_bound((2, 3), (0, 1)), loose_bound((2, 3, 2), (0, 1, 2))), ((6, 1), (27, 2)))
        self.assertEqual((loose_bound((2,) * 4, (0, 1, 2)), loose_bound((2,) * 4, (0, 1, 2, 3))), ((9, 1), None))
        self.assertEqual(loose_bound((2,), ()), (1, 1))
        self.assertEqual((square_bound((2, 2, 2), (0, 1, 2)), square_bound((2,) * 4, (0, 1, 2, 3))), ((9, 1), (54, 1)))
        self.assertEqual(square_bound((5,), (0,)), (5, 1))

    def test_against_the_definitions(self):
        for tolls in itertools.product((1, 2, 3, 5), repeat=4):
            for rows in plain_parts(4):
                self.assertEqual(toll_product(tolls, rows), product(tolls[i] for i in rows))
                loose = plain_loose(tolls, rows)
                self.assertEqual(loose_bound(tolls, rows[::-1]), told(loose))
                if rows:
                    singles = [single_bound(tolls, rows, r) for r in rows]
                    self.assertEqual(singles, [plain_single(tolls, rows, r) for r in rows])
                    self.assertEqual(least_single(tolls, rows), min(singles))
                    bounds = [Fraction(min(singles))] + ([] if loose is None else [loose])
                    self.assertEqual(square_bound(tolls, rows), told(min(bounds)))

    def test_tolls_of_any_length(self):
        many = [10 ** 30] * 14
        rows = list(range(14))
        self.assertEqual(toll_product(many, rows), 10 ** 420)
        self.assertEqual(single_bound(many, rows, 3), 10 ** 30 * (2 * 10 ** 30 - 1) ** 13)
        self.assertIsNone(loose_bound(many, rows))
        self.assertEqual(square_bound(many, rows), (least_single(many, rows), 1))

    def test_tolls_of_zero(self):
        calls = (toll_product, least_single, loose_bound, square_bound, lambda q, rows: single_bound(q, rows, rows[0]))
        for call in calls:
            self.assertEqual(error_of(call, (0, 2, 2), (0, 1)), ("NotMet", "tolls"))
            self.assertEqual(error_of(call, (2, 2, 0), (1, 2)), ("NotMet", "tolls"))
            self.assertIsNone(error_of(call, (0, 2, 2), (1, 2)))
        self.assertEqual((toll_product((0, 2), ()), toll_product((0, 2), (1,))), (1, 2))
        self.assertEqual(loose_bound((0, 2), ()), (1, 1))

    def test_errors(self):
        calls = (toll_product, least_single, loose_bound, square_bound,
                 lambda tolls, rows: single_bound(tolls, rows, None))
        for call in calls:
            for wrong in WRONG_KINDS:
                self.assertEqual(error_of(call, wrong, None), ("BadTolls", -1))
                self.assertEqual(error_of(call, (0, 2), wrong), ("BadSet", -1))
            for wrong in WRONG_INTEGERS + (-1,):
                self.assertEqual(error_of(call, [1, wrong, None], None), ("BadTolls", 1))
                self.assertEqual(error_of(call, [0, 1], [1, wrong]), ("BadSet", 1))
            self.assertEqual(error_of(call, [0, 1], [0, 2]), ("BadSet", 1))
            self.assertEqual(error_of(call, [0, 1], [0, 1, 0]), ("BadSet", 2))
        for call in (least_single, square_bound):
            self.assertEqual(error_of(call, (0,), ()), ("BadSet", -1))
            self.assertEqual(error_of(call, (), []), ("BadSet", -1))
        for wrong in WRONG_INTEGERS + (0, 3, -1):
            self.assertEqual(error_of(single_bound, (0, 1, 0, 1), (1, 2), wrong), ("BadSpot", "row"))
        self.assertEqual(error_of(single_bound, (1,), (), 0), ("BadSpot", "row"))
        self.assertEqual(error_of(single_bound, (1, 1), (0, 1), True), ("BadSpot", "row"))
        self.assertEqual(error_of(single_bound, (0, 1, 0, 1), (1, 2), 1), ("NotMet", "tolls"))


class FactsTest(unittest.TestCase):
    def test_square_parts_keep_to_the_bounds(self):
        tables = list(some_tables(50, 131, (1, 4), (1, 4), 2)) + list(some_tables(12, 132, (3, 3), (3, 4), 3))
        tables += list(some_tables(6, 133, (4, 5), (4, 4), 2))
        reached = [0, 0]
        for table in tables:
            parts = plain_squares(table)
            for least in least_tolls(table):
                q = [max(1, toll) for toll in least]
                for rows, _, number in parts:
                    self.check_part(q, rows, abs(number))
                    reached[0] += abs(number) == toll_product(q, rows)
                    reached[1] += abs(number) == Fraction(*square_bound(q, rows))
        self.assertTrue(min(reached) > 50)

    def check_part(self, q, rows, size):
        self.assertTrue(all(size <= single_bound(q, rows, r) for r in rows))
        self.assertLessEqual(size, Fraction(*square_bound(q, rows)))
        loose = [q[i] for i in rows if q[i] > 1]
        if len(loose) <= 2:
            self.assertLessEqual(size, toll_product(q, rows))
        if len(loose) == 3:
            self.assertLessEqual(8 * size, 9 * toll_product(q, rows))
            if any(toll % 2 for toll in loose):
                self.assertLess(8 * size, 9 * toll_product(q, rows))

    def test_bounds_that_are_reached(self):
        for h, k in itertools.product((1, 2, 3, 10 ** 30), repeat=2):
            table = Table([(h, 0), (0, k)])
            self.assertTrue(serves(table, (h, k)))
            self.assertEqual(determinant(table), toll_product((h, k), (0, 1)))
        self.assertTrue(serves(NINE, (2, 2, 2)))
        self.assertEqual((determinant(NINE), toll_product((2, 2, 2), (0, 1, 2))), (9, 8))
        self.assertEqual([single_bound((2, 2, 2), (0, 1, 2), r) for r in range(3)], [18] * 3)
        self.assertEqual(loose_bound((2, 2, 2), (0, 1, 2)), (9, 1))

    def test_firm_tables_by_determinants(self):
        tables = list(all_tables(2, 3, (-1, 0, 1))) + list(all_tables(3, 2, (0, 1))) + list(all_tables(1, 2, (-2, 0, 1)))
        tables += list(some_tables(150, 134, (0, 4), (1, 4), 1))
        counts = [0, 0]
        for table in tables:
            small = all(part[2] in (-1, 0, 1) for part in plain_squares(table))
            self.assertEqual(serves(table, (1,) * table.height), small)
            self.assertEqual(plain_firm_table(table), small)
            counts[small] += 1
        self.assertTrue(min(counts) > 100)

    def test_least_equal_toll(self):
        for table in some_tables(120, 135, (1, 4), (1, 4), 2):
            h = least_equal(table)
            if h == 0:
                continue
            self.assertEqual(plain_failing(table, (h,) * table.height), [])
            for rows, _, number in plain_squares(table):
                self.assertLessEqual(abs(number), h * (2 * h - 1) ** (len(rows) - 1))
                if len(rows) == 2:
                    self.assertLessEqual(abs(number), h * h)
                if len(rows) == 3:
                    self.assertLessEqual(8 * abs(number), 9 * h * h * h)


if __name__ == "__main__":
    unittest.main()
