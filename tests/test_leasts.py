"""Part choices, least tolls, the least equal toll."""

import unittest

from makers import WRONG_KINDS, all_tables, all_tolls, error_of, plain_failing, plain_parts, plain_signs, plain_sums
from makers import some_tables
from splitnumbers.leasts import least_equal, least_tolls, part_choices
from splitnumbers.tables import Table

T = Table([(1, 1), (1, -1)])


def at_most(one, other):
    return all(a <= b for a, b in zip(one, other))


class LeastsTest(unittest.TestCase):
    def test_part_choices(self):
        self.assertEqual(part_choices(T, (0, 1)), [(0, 2), (2, 0)])
        self.assertEqual(part_choices(T, [1]), [(1, 1)])
        self.assertEqual(part_choices(T, ()), [(0, 0)])
        self.assertEqual(part_choices(Table.zeros(0, 2), (0, 1)), [()])
        self.assertEqual(part_choices(Table([(2, 1), (2, 1)]), [1, 0]), [(1, 1)])
        for table in some_tables(60, seed=21, greatest=4):
            for part in plain_parts(table.columns):
                sizes = [tuple(map(abs, plain_sums(table, x))) for x in plain_signs(part, table.columns)]
                plain = sorted({s for s in sizes if not any(t != s and at_most(t, s) for t in sizes)})
                self.assertEqual(part_choices(table, part[::-1]), plain)

    def test_part_choices_errors(self):
        wide = Table.zeros(1, 8)
        for wrong in WRONG_KINDS:
            self.assertEqual(error_of(part_choices, wide, wrong), ("BadSet", -1))
        self.assertEqual(error_of(part_choices, wide, list(range(9))), ("BadSet", 8))
        self.assertEqual(error_of(part_choices, wide, list(range(8))), ("TooMany", 7))
        self.assertEqual(part_choices(wide, list(range(1, 8))), [(0,)])

    def test_least_tolls(self):
        self.assertEqual(least_tolls(T), [(1, 2), (2, 1)])
        self.assertEqual(least_tolls(Table.zeros(0, 3)), [()])
        self.assertEqual(least_tolls(Table([(0, 0), (3, -1)])), [(0, 3)])
        self.assertEqual(least_tolls(Table([(3, 2, 2, 1)])), [(3,)])
        self.assertEqual(least_tolls(Table.zeros(6, 5)), [(0,) * 6])

    def test_least_tolls_against_all_tolls(self):
        tables = list(all_tables(1, 3, (-2, 0, 1, 3)))
        tables += list(some_tables(40, seed=22, heights=(2, 2), greatest=3)) + list(some_tables(15, seed=23, heights=(3, 3)))
        for table in tables:
            most = max(sum(abs(a) for a in row) for row in table.rows) + 1
            serving = [q for q in all_tolls(table.height, min(most, 6)) if not plain_failing(table, q)]
            plain = [q for q in serving if not any(p != q and at_most(p, q) for p in serving)]
            least = least_tolls(table)
            self.assertEqual([q for q in least if max(q) <= 6], plain)
            self.assertEqual(least, sorted(set(least)))

    def test_least_tolls_cannot_be_lowered(self):
        for table in some_tables(60, seed=24, heights=(1, 4), widths=(1, 5), greatest=9):
            least = least_tolls(table)
            self.assertTrue(least)
            for q in least:
                self.assertEqual(plain_failing(table, q), [])
                for i in range(table.height):
                    if q[i] > 0:
                        self.assertTrue(plain_failing(table, q[:i] + (q[i] - 1,) + q[i + 1:]))
                self.assertFalse(any(p != q and at_most(p, q) for p in least))
            self.assertEqual(least_equal(table), min(max(q) for q in least))
            for i, row in enumerate(table.rows):
                if not any(row):
                    self.assertTrue(all(q[i] == 0 for q in least))

    def test_least_tolls_errors(self):
        self.assertEqual(error_of(least_tolls, Table.zeros(7, 6)), ("TooMany", 5))
        self.assertEqual(error_of(least_tolls, Table.zeros(7, 5)), ("TooMany", 6))
        self.assertIsNone(error_of(least_tolls, Table.zeros(6, 5)))

    def test_least_equal(self):
        self.assertEqual(least_equal(T), 2)
        self.assertEqual(least_equal(Table.zeros(0, 7)), 0)
        self.assertEqual(least_equal(Table.zeros(12, 7)), 0)
        self.assertEqual(least_equal(Table.chain(7)), 1)
        self.assertEqual(error_of(least_equal, Table.zeros(0, 8)), ("TooMany", 7))
        for table in some_tables(60, seed=25, heights=(1, 3), greatest=4):
            h = least_equal(table)
            self.assertEqual(plain_failing(table, (h,) * table.height), [])
            self.assertTrue(h == 0 or plain_failing(table, (h - 1,) * table.height))

    def test_new_lists(self):
        least_tolls(T).clear()
        part_choices(T, [0]).clear()
        self.assertEqual((least_tolls(T), part_choices(T, [0])), ([(1, 2), (2, 1)], [(1, 1)]))


if __name__ == "__main__":
    unittest.main()
