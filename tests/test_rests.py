"""Targets of square tables: solutions, classes, rests."""

import itertools
import unittest
from fractions import Fraction

from firmers import lowered, plain_determinant, square_tables, with_loose_rows
from makers import WRONG_INTEGERS, WRONG_KINDS, error_of, long_numbers, serving_tolls, some_numbers
from splitnumbers.bounds import single_bound, toll_product
from splitnumbers.numbers import Numbers
from splitnumbers.rests import class_count, close_rest, rest_of, solved, split_target
from splitnumbers.tables import Table

NINE = Table([(1, 1, 1), (-1, 2, -1), (-1, -1, 2)])


def targets_in(low, high, length):
    return itertools.product(range(low, high), repeat=length)


def class_of(table, target):
    """What two targets share exactly if they are in one class."""
    return split_target(table, target)[1].ratios


class ClassCountTest(unittest.TestCase):
    def test_class_count(self):
        self.assertEqual(class_count(NINE), 9)
        self.assertEqual(class_count(Table([(0, 1), (1, 0)])), 1)
        self.assertEqual(class_count(Table([(1, 1), (2, 2)])), 0)
        self.assertEqual(class_count(Table.unit(12).times_row(3, -5)), 5)
        for table in square_tables(40, 141):
            self.assertEqual(class_count(table), abs(plain_determinant(table.rows)))
        for table in (Table([(1, 2)]), Table.zeros(3, 2), Table.zeros(0, 1), Table.zeros(12, 11), Table.zeros(0, 12)):
            self.assertEqual(error_of(class_count, table), ("NotFitting", "square"))

    def test_number_of_classes(self):
        seen = set()
        for table in square_tables(60, 142, (1, 3), 2):
            many = class_count(table)
            if many ** table.height <= 1500:
                # Each class holds a target with numbers from 0 to below the determinant.
                classes = {class_of(table, target) for target in targets_in(0, many, table.height)}
                self.assertEqual(len(classes), many)
                seen.add(many)
        self.assertTrue(len(seen) > 5)


class SolvedTest(unittest.TestCase):
    def test_small_cases(self):
        table = Table([(2, 0), (0, 3)])
        self.assertEqual(solved(table, (3, 4)), Numbers([9, 8], 6))
        self.assertEqual(split_target(table, [3, 4]), ((1, 1), Numbers([3, 2], 6)))
        self.assertEqual(split_target(table, (-1, -2)), ((-1, -1), Numbers([3, 2], 6)))
        self.assertEqual(split_target(table, Numbers([4, 0])), ((2, 0), Numbers([0, 0])))
        self.assertEqual(solved(Table([(-7,)]), (3,)), Numbers([-3], 7))

    def test_sums_of_the_solution(self):
        for k, table in enumerate(square_tables(80, 143, (1, 6))):
            for seed in range(4):
                target = some_numbers(table.height, 9 * k + seed, -20, 20)
                x = solved(table, target)
                self.assertEqual(table.sums_of(x), Numbers(target))
                whole, shares = split_target(table, target)
                self.assertIs(type(whole), tuple)
                self.assertEqual(Numbers(whole) + shares, x)
                self.assertTrue(all(0 <= Fraction(*share) < 1 for share in shares))

    def test_classes_by_differences(self):
        for table in square_tables(12, 144, (1, 2), 3):
            targets = list(targets_in(-2, 3, table.height))
            for one, other in itertools.product(targets, repeat=2):
                less = [b - a for a, b in zip(one, other)]
                same = class_of(table, one) == class_of(table, other)
                self.assertEqual(same, solved(table, less).is_whole)

    def test_long_numbers(self):
        numbers = long_numbers(36, 7)
        table = Table([numbers[k:k + 6] for k in range(0, 36, 6)])
        target = long_numbers(6, 3)
        self.assertEqual(table.sums_of(solved(table, target)), Numbers(target))


class RestTest(unittest.TestCase):
    def check(self, table, target, found, bounds):
        """bounds holds the least and the greatest entry of the rest, for each row."""
        self.assertIs(type(found), tuple)
        multipliers, rest = found
        self.assertIs(type(multipliers), tuple)
        self.assertIs(type(rest), tuple)
        self.assertEqual(len(multipliers), table.columns)
        self.assertEqual(tuple(a + b for a, b in zip(table(multipliers), rest)), tuple(target))
        self.assertTrue(all(low <= e <= high for e, (low, high) in zip(rest, bounds)), (target, rest, bounds))
        return rest

    def test_rest_of(self):
        self.assertEqual(rest_of(Table([(2,)]), (2,), 0, (5,)), ((2,), (1,)))
        self.assertEqual(rest_of(Table([(2,)]), (2,), 0, (-5,)), ((-3,), (1,)))
        for k, table in enumerate(square_tables(40, 145, (1, 3), 2)):
            q = serving_tolls(table, 1)
            greater = tuple(toll + more for toll, more in zip(q, some_numbers(len(q), k, 0, 2)))
            for tolls in (q, greater):
                for row in range(table.height):
                    self.check_classes(table, tolls, row)

    def check_classes(self, table, q, row):
        bounds = [(0 if i == row else 1 - toll, toll - 1) for i, toll in enumerate(q)]
        rests = {}
        for target in targets_in(-3, 4, table.height):
            rest = self.check(table, target, rest_of(table, q, row, target), bounds)
            self.assertEqual(class_of(table, rest), class_of(table, target))
            rests.setdefault(class_of(table, target), set()).add(rest)
        found = [rest for listed in rests.values() for rest in listed]
        self.assertEqual(len(found), len(set(found)))
        self.assertLessEqual(class_count(table), single_bound(q, list(range(table.height)), row))

    def test_close_rest(self):
        for loose in (0, 1, 2):
            seen = set()
            for table, q in with_loose_rows(30, 146 + loose, loose, (1, 3), 4):
                seen.add(sum(1 for toll in q if toll > 1))
                bounds = [(0, toll - 1) for toll in q]
                self.assertLessEqual(class_count(table), toll_product(q, list(range(len(q)))))
                for target in targets_in(-3, 4, table.height):
                    self.check(table, target, close_rest(table, q, target), bounds)
            self.assertIn(loose, seen)

    def test_close_rest_with_more_columns(self):
        for loose in (1, 2):
            for k, (table, q) in enumerate(with_loose_rows(25, 149 + loose, loose, (4, 6), 6)):
                for seed in range(6):
                    target = some_numbers(table.height, 11 * k + seed, -60, 60)
                    self.check(table, target, close_rest(table, q, target), [(0, toll - 1) for toll in q])

    def test_every_class_with_one_loose_row(self):
        for table, q in with_loose_rows(20, 152, 1, (1, 4), 3):
            h = q[-1]
            self.assertLessEqual(class_count(table), h)
            held = {class_of(table, (0,) * (table.height - 1) + (e,)) for e in range(h)}
            self.assertEqual(len(held), class_count(table))

    def test_every_class_with_two_loose_rows(self):
        for table, q in with_loose_rows(20, 153, 2, (2, 4), 3):
            held = {class_of(table, (0,) * (table.height - 2) + e) for e in itertools.product(*map(range, q[-2:]))}
            self.assertEqual(len(held), class_count(table))

    def test_long_tolls(self):
        great = 10 ** 30
        table = Table([(great, 1), (1, great - 7)])
        for target in ((0, 0), (great // 3, great // 7), (-great, 5), (12345, -great + 1)):
            for q in ((great, great - 7), (great + 4, great)):
                self.check(table, target, close_rest(table, q, target), [(0, toll - 1) for toll in q])
                for row in (0, 1):
                    bounds = [(0 if i == row else 1 - toll, toll - 1) for i, toll in enumerate(q)]
                    self.check(table, target, rest_of(table, q, row, target), bounds)

    def test_six_rows_and_columns(self):
        table = Table.unit(6).times_row(2, 5).times_row(4, -3)
        q = (1, 1, 5, 1, 3, 1)
        target = (7, -2, 9, 0, -8, 3)
        self.assertEqual(close_rest(table, q, target), ((7, -2, 1, 0, 3, 3), (0, 0, 4, 0, 1, 0)))
        self.assertEqual(lowered(table, (1, 1, 9, 1, 9, 1)), q)
        self.check(table, target, rest_of(table, q, 4, target), [(1 - toll, toll - 1) for toll in q])


class ErrorsTest(unittest.TestCase):
    def test_solved(self):
        for call in (solved, split_target):
            wide = Table.zeros(2, 7)
            for wrong in WRONG_KINDS + (Numbers([1, 1], 2),):
                self.assertEqual(error_of(call, wide, wrong), ("BadNumbers", -1))
            for wrong in WRONG_INTEGERS:
                self.assertEqual(error_of(call, wide, [1, wrong, None]), ("BadNumbers", 1))
            self.assertEqual(error_of(call, wide, (1,)), ("OtherSize", 2))
            self.check_table_errors(call)

    def check_table_errors(self, call):
        for height, columns in ((2, 7), (7, 2), (7, 7), (12, 12), (0, 7)):
            self.assertEqual(error_of(call, Table.zeros(height, columns), (0,) * height), ("TooMany", 6))
        for height, columns in ((1, 2), (2, 1), (0, 1), (6, 5)):
            self.assertEqual(error_of(call, Table.zeros(height, columns), (0,) * height), ("NotFitting", "square"))
        for table in (Table.zeros(1, 1), Table([(1, 2), (2, 4)]), Table.zeros(6, 6)):
            self.assertEqual(error_of(call, table, (0,) * table.height), ("NotFitting", "determinant"))

    def test_tolls_row_and_target(self):
        wide = Table.zeros(2, 7)
        for wrong in WRONG_KINDS:
            self.assertEqual(error_of(rest_of, wide, wrong, None, None), ("BadTolls", -1))
            self.assertEqual(error_of(close_rest, wide, wrong, None), ("BadTolls", -1))
            self.assertEqual(error_of(rest_of, wide, (0, 1), 1, wrong), ("BadNumbers", -1))
            self.assertEqual(error_of(close_rest, wide, (0, 1), wrong), ("BadNumbers", -1))
        for wrong in WRONG_INTEGERS + (-1,):
            self.assertEqual(error_of(rest_of, wide, (0, wrong), None, None), ("BadTolls", 1))
            self.assertEqual(error_of(close_rest, wide, (0, wrong), None), ("BadTolls", 1))
        for wrong in WRONG_INTEGERS + (-1, 2):
            self.assertEqual(error_of(rest_of, wide, (0, 1), wrong, None), ("BadSpot", "row"))
        self.assertEqual(error_of(rest_of, wide, (0,), None, None), ("OtherSize", 2))
        self.assertEqual(error_of(close_rest, wide, (0,), None), ("OtherSize", 2))
        self.assertEqual(error_of(rest_of, wide, (0, 1), 0, (1, 2, 3)), ("OtherSize", 2))
        self.assertEqual(error_of(close_rest, wide, (0, 1), (1, 2, 3)), ("OtherSize", 2))
        self.assertEqual(error_of(rest_of, Table.zeros(0, 1), (), 0, ()), ("BadSpot", "row"))

    def test_tables_and_serving(self):
        def rest_in(table, target):
            return rest_of(table, (0,) * table.height, 0, target)

        def close_in(table, target):
            return close_rest(table, (0,) * table.height, target)

        self.check_table_errors(close_in)
        for height, columns in ((2, 7), (7, 7)):
            self.assertEqual(error_of(rest_in, Table.zeros(height, columns), (0,) * height), ("TooMany", 6))
        self.assertEqual(error_of(rest_in, Table.zeros(2, 1), (0, 0)), ("NotFitting", "square"))
        self.assertEqual(error_of(rest_in, Table.zeros(2, 2), (0, 0)), ("NotFitting", "determinant"))
        for call in (rest_in, close_in):
            self.assertEqual(error_of(call, Table([(2, 0), (0, 2)]), (0, 0)), ("NotMet", "tolls"))
        twos = Table([(2, 0, 0), (0, 2, 0), (0, 0, 2)])
        self.assertEqual(error_of(rest_of, twos, (2, 1, 0), 0, (0, 0, 0)), ("NotMet", "tolls"))
        self.assertEqual(error_of(rest_of, twos, (2, 1, 1), 0, (0, 0, 0)), ("NotServing", (1,)))
        self.assertEqual(error_of(close_rest, twos, (2, 1, 0), (0, 0, 0)), ("NotMet", "tolls"))
        self.assertEqual(error_of(close_rest, NINE, (2, 2, 1), (0, 0, 0)), ("NotServing", (2,)))
        self.assertEqual(error_of(close_rest, NINE.with_row((0, 0, 0)), (2, 2, 2, 2), (0,) * 4), ("NotFitting", "square"))
        self.assertEqual(error_of(close_rest, NINE, (2, 2, 2), (0, 0, 0)), ("NotMet", "loose"))
        threes = Table([(3, 0, 0), (0, 3, 0), (0, 0, 3)])
        self.assertEqual(error_of(close_rest, threes, (3, 2, 3), (0, 0, 0)), ("NotServing", (1,)))
        both = Table([(1, 1, 0), (1, -1, 0), (0, 0, 1)])
        self.assertEqual(error_of(close_rest, both, (1, 1, 5), (0, 0, 0)), ("NotServing", (0, 1)))
        self.assertIsNone(error_of(close_rest, both, (2, 2, 1), (0, 0, 0)))
        self.assertEqual(error_of(close_rest, both, (2, 2, 2), (0, 0, 0)), ("NotMet", "loose"))
        self.assertIsNone(error_of(rest_of, both, (2, 2, 2), 2, (0, 0, 0)))


if __name__ == "__main__":
    unittest.main()
