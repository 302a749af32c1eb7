"""Tolls of two rows below a firm table."""

import itertools
import unittest

from callers import check_calls
from firmers import firm_tables, negative, ones, plain_determinant, plain_lones
from makers import error_of, long_numbers, plain_failing, plain_splits, some_numbers
from rowmakers import dot, two_rows_each, ways_of, worth
from splitnumbers.growing import goes_in
from splitnumbers.lones import lone_splits, lone_worth, toll_of_row
from splitnumbers.lonesums import firm_lones
from splitnumbers.lonetolls import lone_toll
from splitnumbers.numbers import Numbers
from splitnumbers.pairs import pairs_of
from splitnumbers.pairtolls import above_lones, failing_pair, pair_serves, second_toll
from splitnumbers.tables import Table

FIRM = list(firm_tables(30, 281, (0, 3), (1, 4))) + list(firm_tables(6, 282, (0, 2), (5, 5)))
FREE = Table.zeros(0, 2)


def couples_up_to(table, one, other, more=2):
    """Couples around those that are just enough."""
    return itertools.product(range(1, 2 * lone_toll(table, one) + more), range(1, 2 * lone_toll(table, other) + more))


class PairServesTest(unittest.TestCase):
    def test_small_cases(self):
        one = (3, 3)
        other = (3, -3)
        served = [(h, k) for h in range(1, 8) for k in range(1, 8) if pair_serves(FREE, one, other, h, k)]
        self.assertEqual(served, [(h, k) for h in range(3, 8) for k in range(3, 8) if h >= 6 or k >= 6])
        self.assertIs(pair_serves(FREE, one, other, 3, 6), True)
        self.assertIs(pair_serves(FREE, one, other, 5, 5), False)
        self.assertIs(pair_serves(FREE, (0, 0), [0, 0], 1, 1), True)
        self.assertIs(pair_serves(Table.zeros(12, 2), Numbers(one), other, 6, 3), True)
        self.assertEqual(failing_pair(FREE, one, other, 5, 5), ((1, 0), (0, 1)))
        self.assertIsNone(failing_pair(FREE, one, other, 6, 3))
        # A pair may have a way although a row's own toll is too low.
        self.assertIsNone(failing_pair(FREE, (3, 3), (3, 3), 1, 1))
        self.assertIs(pair_serves(FREE, (3, 3), (3, 3), 1, 1), False)
        self.assertIsNone(failing_pair(Table.zeros(0, 1), (5,), (5,), 1, 1))

    def test_against_all_parts(self):
        seen = {True: 0, False: 0}
        for table, one, other in two_rows_each(FIRM, 283):
            below = table.with_row(one).with_row(other)
            parts = [{j for j, a in enumerate(x) if a} for x in plain_lones(table)]
            parts += [{j for j, (a, b) in enumerate(zip(u, v)) if a or b} for u, v in pairs_of(table)]
            for first, second in couples_up_to(table, one, other):
                failing = plain_failing(below, ones(table) + (first, second))
                enough = pair_serves(table, one, other, first, second)
                seen[enough] += 1
                self.assertIs(enough, failing == [])
                least = [part for part in failing if not any(set(other) < set(part) for other in failing)]
                self.assertTrue(all(set(part) in parts for part in least))
                self.check_pairs(table, one, other, first, second)
        self.assertTrue(min(seen.values()) > 300)

    def check_pairs(self, table, one, other, first, second):
        without = [pair for pair in pairs_of(table)
                   if not any(worth(one, way) <= first and worth(other, way) <= second for way in ways_of(pair))]
        self.assertEqual(failing_pair(table, one, other, first, second), without[0] if without else None)
        tolls = first >= lone_toll(table, one) and second >= lone_toll(table, other)
        self.assertEqual(pair_serves(table, one, other, first, second), tolls and not without)

    def test_long_numbers(self):
        table = Table([(1, 1, 0), (0, 1, -1)])
        one = long_numbers(3, 1)
        other = long_numbers(3, 2)
        first = lone_toll(table, one)
        second = second_toll(table, one, first, other)
        self.assertIs(pair_serves(table, one, other, first, second), True)
        self.assertIs(pair_serves(table, one, other, first, second - 1), False)
        self.assertIs(pair_serves(table, one, other, first - 1, second), False)

    def test_errors(self):
        for call in (pair_serves, failing_pair):
            check_calls(self, call, ("row", "row", "first", "second"))
        check_calls(self, second_toll, ("row", "first", "row"))
        check_calls(self, above_lones, ("row", "first"))


class SecondTollTest(unittest.TestCase):
    def test_small_cases(self):
        one = (3, 3)
        other = (3, -3)
        self.assertEqual((second_toll(FREE, one, 3, other), second_toll(FREE, one, 6, other)), (6, 3))
        self.assertEqual(above_lones(FREE, one, 3), [(0, 1), (1, -1), (1, 0)])
        self.assertEqual(above_lones(FREE, one, 6), [(0, 1), (1, 0)])
        self.assertEqual(above_lones(Table.zeros(0, 1), (0,), 1), [(1,)])
        self.assertEqual(second_toll(FREE, one, 3, (0, 0)), 0)
        self.assertEqual(second_toll(Table.zeros(12, 2), one, 3, Numbers(other)), 6)
        above_lones(FREE, one, 3).clear()
        self.assertEqual(len(above_lones(FREE, one, 3)), 3)
        for call in (lambda first: second_toll(FREE, one, first, other), lambda first: above_lones(FREE, one, first)):
            self.assertEqual(error_of(call, 2), ("NotMet", "first"))
            self.assertEqual(error_of(call, 0), ("BadNumber", "first"))
            self.assertIsNone(error_of(call, 3))
        self.assertEqual(error_of(above_lones, Table([(1, 2)]), (5, 5), 1), ("NotFirm", (1,)))
        self.assertEqual(error_of(second_toll, Table.zeros(0, 8), (5,) * 8, 1, (0,) * 8), ("TooMany", 7))

    def test_against_the_table_with_the_first_row(self):
        for table, one, other in two_rows_each(FIRM, 284):
            low = max(1, lone_toll(table, one))
            below = table.with_row(one)
            for first in range(low, 2 * low + 2):
                q = ones(table) + (first,)
                above = above_lones(table, one, first)
                expected = list(firm_lones(table))
                for pair in pairs_of(table):
                    near = [way for way in ways_of(pair) if worth(one, way) <= first]
                    expected += near if len(near) == 1 else []
                self.assertEqual(above, sorted(expected))
                self.assertTrue(set(above) <= set(lone_splits(below, q)))
                second = second_toll(table, one, first, other)
                self.assertEqual(second, toll_of_row(below, q, other))
                self.assertEqual(second, max(worth(other, x) for x in above))
                self.assertEqual(second, lone_worth(below, q, other))

    def test_enough_in_either_order(self):
        for table, one, other in two_rows_each(FIRM, 285):
            for first, second in couples_up_to(table, one, other):
                enough = pair_serves(table, one, other, first, second)
                self.assertEqual(enough, pair_serves(table, other, one, second, first))
                by_one = first >= lone_toll(table, one) and second >= second_toll(table, one, first, other)
                by_other = second >= lone_toll(table, other) and first >= second_toll(table, other, second, one)
                self.assertEqual((by_one, by_other), (enough, enough))

    def test_how_it_changes(self):
        for table, one, other in two_rows_each(FIRM, 286):
            low = max(1, lone_toll(table, one))
            own = lone_toll(table, other)
            third = some_numbers(table.columns, 5, -3, 3)
            before = None
            for first in range(low, 2 * low + 3):
                second = second_toll(table, one, first, other)
                both = [a + b for a, b in zip(other, third)]
                self.assertLessEqual(second_toll(table, one, first, both),
                                     second + second_toll(table, one, first, third))
                for t in (-2, 0, 3, 10 ** 30):
                    self.assertEqual(second_toll(table, one, first, [t * a for a in other]), abs(t) * second)
                self.assertTrue(before is None or second <= before)
                self.assertTrue(own <= second <= 2 * own)
                before = second
                if first >= max(1, 2 * lone_toll(table, one)):
                    self.assertEqual(second, own)

    def test_first_rows_that_go_in(self):
        looked_at = 0
        for table, one, other in two_rows_each(FIRM, 287, 1):
            if goes_in(table, one):
                looked_at += 1
                self.assertEqual(second_toll(table, one, 1, other), lone_toll(table.with_row(one), other))
        self.assertTrue(looked_at > 5)


class DeterminantsTest(unittest.TestCase):
    def test_square_parts_with_both_rows(self):
        looked_at = 0
        for table, one, other in two_rows_each(FIRM, 288):
            lones = plain_lones(table)
            products = {dot(one, u) * dot(other, v) - dot(one, v) * dot(other, u) for u in lones for v in lones}
            enough = [couple for couple in couples_up_to(table, one, other) if pair_serves(table, one, other, *couple)]
            least = min(first * second for first, second in enough)
            for size in range(2, table.columns + 1):
                for rows in itertools.combinations(table.rows, size - 2):
                    for columns in itertools.combinations(range(table.columns), size):
                        lot = [tuple(row[j] for j in columns) for row in rows + (one, other)]
                        number = plain_determinant(lot)
                        looked_at += number != 0
                        self.assertTrue(number == 0 or number in products or -number in products)
                        self.assertLessEqual(abs(number), least)
        self.assertTrue(looked_at > 100, looked_at)

    def test_parts_of_lone_splits_have_no_other_splits(self):
        for table, one, _ in two_rows_each(FIRM[:10], 289):
            first = max(1, lone_toll(table, one))
            for x in above_lones(table, one, first):
                part = [j for j, a in enumerate(x) if a]
                splits = plain_splits(table.with_row(one), ones(table) + (first,), part)
                self.assertEqual(splits, sorted([x, negative(x)]))


if __name__ == "__main__":
    unittest.main()
