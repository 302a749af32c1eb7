"""The facts on tables and on serving tolls, over many tables."""

import itertools
import unittest

from makers import (all_tables, all_tolls, first_of, plain_failing, plain_parts, plain_sums, serving_tolls, some_numbers,
                    some_tables)
from splitnumbers.numbers import Numbers
from splitnumbers.sets import parts_of
from splitnumbers.signs import signs_of
from splitnumbers.splitting import is_split, lowered_tolls, splits_of
from splitnumbers.tables import Table
from splitnumbers.tabletexts import table_from, table_text
from splitnumbers.tolls import failing_part, least_failing, serves


def serving_list(table, greatest):
    return [q for q in all_tolls(table.height, greatest) if serves(table, q)]


class TableFactsTest(unittest.TestCase):
    def test_text_is_read_back(self):
        for table in all_tables(2, 2, (-10, 0, 1)):
            self.assertEqual(table_from(table_text(table)), table)

    def test_turned_twice(self):
        for table in some_tables(100, heights=(1, 5), widths=(1, 5)):
            self.assertEqual(~~table, table)
            self.assertEqual((~table).columns, table.height)

    def test_sums_side_by_side_and_below(self):
        for one, other in zip(some_tables(80, seed=7, heights=(2, 2)), some_tables(80, seed=8, heights=(2, 2))):
            x = some_numbers(one.columns, 3, -4, 4)
            y = some_numbers(other.columns, 4, -4, 4)
            added = tuple(a + b for a, b in zip(one(x), other(y)))
            self.assertEqual((one | other)(x + y), added)
        for one, other in zip(some_tables(80, seed=9, widths=(3, 3)), some_tables(80, seed=10, widths=(3, 3))):
            x = some_numbers(3, 5, -4, 4)
            self.assertEqual((one & other)(x), one(x) + other(x))

    def test_sums_are_linear(self):
        for k, table in enumerate(some_tables(60, seed=11)):
            x = some_numbers(table.columns, k, -5, 5)
            y = some_numbers(table.columns, k + 70, -5, 5)
            for s, t in itertools.product((-2, 0, 3), (-1, 2)):
                row = [s * a + t * b for a, b in zip(x, y)]
                self.assertEqual(table(row), tuple(s * a + t * b for a, b in zip(table(x), table(y))))
                self.assertEqual(table.sums_of(Numbers(row, 2)), Numbers(table(row), 2))


class ServingFactsTest(unittest.TestCase):
    def test_greater_tolls_and_lots(self):
        for table in some_tables(40, seed=12, heights=(1, 3), widths=(1, 3)):
            q = serving_tolls(table)
            self.assertTrue(serves(table, q))
            for more in itertools.product((0, 1, 5), repeat=table.height):
                self.assertTrue(serves(table, [a + b for a, b in zip(q, more)]))
            for rows, columns in itertools.product(plain_parts(table.height), plain_parts(table.columns)[1:]):
                self.assertTrue(serves(table.lot(rows, columns), [q[i] for i in rows]))

    def test_toll_and_numbers(self):
        for table in some_tables(60, seed=13, heights=(1, 2), widths=(1, 3)):
            for q in serving_list(table, 3):
                for toll, row in zip(q, table.rows):
                    self.assertGreaterEqual(toll, max(abs(a) for a in row))

    def test_same_tolls_for_changed_tables(self):
        for table in some_tables(50, seed=14, heights=(1, 2), widths=(1, 3)):
            serving = serving_list(table, 4)
            changed = [-table] + [table.turned_row(i) for i in range(table.height)]
            changed += [table.turned_column(j) for j in range(table.columns)]
            changed += [table.copied(j).copied(j) for j in range(table.columns)]
            straight = list(range(table.height))
            changed += [table.exchanged(straight, order) for order in itertools.permutations(range(table.columns))]
            for other in changed:
                self.assertEqual(serving_list(other, 4), serving)
            turned = table.exchanged(straight[::-1], list(range(table.columns)))
            self.assertEqual(serving_list(turned, 4), sorted(q[::-1] for q in serving))

    def test_rows_times_a_number(self):
        for table in some_tables(30, seed=15, heights=(1, 2), widths=(1, 3), greatest=1):
            for t in (-3, -1, 2):
                times = table.times_row(0, t)
                for q in all_tolls(table.height, 7):
                    self.assertEqual(serves(times, q), serves(table, (q[0] // abs(t),) + q[1:]))

    def test_equal_rows(self):
        for table in some_tables(30, seed=16, heights=(1, 2), widths=(1, 3)):
            double = table.with_row(table[0])
            for q in all_tolls(double.height, 4):
                lesser = (min(q[0], q[-1]),) + q[1:-1]
                self.assertEqual(serves(double, q), serves(table, lesser))

    def test_lowered_tolls(self):
        for table in some_tables(60, seed=17, heights=(1, 3), widths=(1, 3)):
            for q in all_tolls(table.height, 3):
                parts = [()] + list(parts_of(table.columns))
                each = all(splits_of(table, lowered_tolls(table, q, part), part) for part in parts)
                self.assertEqual(serves(table, q), each)

    def test_failing_parts_hold_least_ones(self):
        for table in some_tables(60, seed=18, heights=(1, 3), widths=(2, 4)):
            for q in all_tolls(table.height, 2):
                failing = plain_failing(table, q)
                least = least_failing(table, q)
                for part in failing:
                    self.assertTrue(any(set(other) <= set(part) for other in least))
                self.assertTrue(all(part in failing for part in least))

    def test_a_part_with_splits_may_hold_a_failing_one(self):
        table = Table([(2, 2)])
        self.assertEqual(failing_part(table, (1,)), (0,))
        self.assertEqual(splits_of(table, (1,), (0, 1)), [(-1, 1), (1, -1)])

    def test_rows_with_small_tolls_are_firm(self):
        for table in some_tables(60, seed=19, heights=(1, 3), widths=(1, 3)):
            for q in serving_list(table, 3):
                rows = [i for i, toll in enumerate(q) if toll <= 1]
                lot = table.lot(rows, list(range(table.columns)))
                self.assertTrue(serves(lot, [1] * len(rows)))


class ValuesTest(unittest.TestCase):
    def test_nothing_handed_in_is_changed(self):
        table = Table([(1, 2), (3, -1)])
        q, part, x = [3, 3], [1, 0], [1, -1]
        splits_of(table, q, part)
        lowered_tolls(table, q, part)
        failing_part(table, q)
        is_split(table, q, x)
        table(x)
        self.assertEqual((q, part, x), ([3, 3], [1, 0], [1, -1]))

    def test_same_answers_again(self):
        for table in some_tables(20, seed=20):
            q = serving_tolls(table)
            self.assertEqual(plain_sums(table, (1,) * table.columns), table([1] * table.columns))
            for call in (failing_part, least_failing, serves):
                self.assertEqual(call(table, q), call(table, q))

    def test_generators_are_lazy(self):
        self.assertEqual(first_of(parts_of(12)), (0,))
        self.assertEqual(first_of(signs_of((1,), 2)), (0, -1))
        part = [0, 1]
        generator = signs_of(part, 2)
        next(generator)
        part.clear()
        self.assertEqual(list(generator), [(-1, 1), (1, -1), (1, 1)])


if __name__ == "__main__":
    unittest.main()
