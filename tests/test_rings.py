"""Tables with at most two numbers in each column, against all rings."""

import itertools
import unittest

from firmers import plain_determinant, plain_firm_table, plain_squares
from makers import all_tables, all_tolls, error_of, plain_failing, some_numbers
from splitnumbers.leasts import least_tolls
from splitnumbers.rings import odd_rings, ring_lots, ring_tolls, two_a_column, two_a_row
from splitnumbers.tables import Table
from splitnumbers.tolls import serves

RING = Table([(1, 0, 1), (1, 1, 0), (0, 1, 1)])


def column_tables(many, seed, heights=(1, 5), widths=(1, 6)):
    """Tables with at most two numbers in each column, 1 or -1."""
    for k in range(many):
        height = heights[0] + k % (heights[1] - heights[0] + 1)
        width = widths[0] + (k // 3) % (widths[1] - widths[0] + 1)
        numbers = some_numbers(4 * width, seed + k * k * 31, 0, 999)
        rows = [[0] * width for _ in range(height)]
        for j in range(width):
            for at, sign in (numbers[4 * j:4 * j + 2], numbers[4 * j + 2:4 * j + 4]):
                rows[at % height][j] = sign % 2 * 2 - 1
        yield Table(rows)


def plain_rings(table):
    """All rings of the document, as (rows, columns, whether they are odd)."""
    for k in range(2, min(table.height, table.columns) + 1):
        for rows in itertools.permutations(range(table.height), k):
            if rows[0] == min(rows):
                for columns in itertools.permutations(range(table.columns), k):
                    numbers = [(table.rows[rows[i]][columns[i]], table.rows[rows[(i + 1) % k]][columns[i]]) for i in range(k)]
                    if all(a and b for a, b in numbers):
                        both = [a for pair in numbers for a in pair]
                        yield rows, columns, all(abs(a) == 1 for a in both) and sum(both) % 4 != 0


class TwoTest(unittest.TestCase):
    def test_small_cases(self):
        self.assertIs(two_a_column(RING), True)
        self.assertIs(two_a_row(RING), True)
        self.assertIs(two_a_column(Table([(1, 1, 1), (-1, 0, 1)])), True)
        self.assertIs(two_a_row(Table([(1, 1, 1), (-1, 0, 1)])), False)
        self.assertIs(two_a_column(Table([(1,), (1,), (-1,)])), False)
        self.assertIs(two_a_row(Table([(1,), (1,), (-1,)])), True)
        for call in (two_a_column, two_a_row):
            self.assertIs(call(Table([(2,)])), False)
            self.assertIs(call(Table([(0, -2)])), False)
            self.assertIs(call(Table.zeros(0, 12)), True)
            self.assertIs(call(Table.zeros(12, 12)), True)
            self.assertIs(call(Table.unit(12)), True)
        self.assertIs(two_a_row(Table.chain(12)), True)
        self.assertIs(two_a_column(Table.chain(12)), True)

    def test_turned_tables(self):
        for table in all_tables(2, 3, (-1, 0, 2)):
            self.assertEqual(two_a_row(table), two_a_column(~table))


class RingsTest(unittest.TestCase):
    def test_small_cases(self):
        self.assertEqual(odd_rings(RING), [(0, 1, 2)])
        self.assertEqual(ring_lots(RING), [(0,), (1,), (2,)])
        self.assertEqual(ring_tolls(RING), [(1, 1, 2), (1, 2, 1), (2, 1, 1)])
        # Rings of length 2: odd with one column of equal numbers, else even.
        self.assertEqual(odd_rings(Table([(1, 1), (1, -1)])), [(0, 1)])
        self.assertEqual(odd_rings(Table([(1, 1), (1, 1)])), [])
        self.assertEqual(odd_rings(Table([(1, -1), (-1, 1)])), [])
        self.assertEqual(odd_rings(Table([(1, -1, 1, 0), (1, 1, 1, 1)])), [(0, 1)])
        self.assertEqual(odd_rings(RING.turned_column(0).turned_row(1)), [(0, 1, 2)])
        minus = Table([(1, 0, 1), (-1, 1, 0), (0, 1, 1)])
        self.assertEqual((odd_rings(minus), ring_lots(minus), ring_tolls(minus)), ([], [()], [(1, 1, 1)]))
        # A row of zeros, and a row in no ring.
        more = RING.with_row((0, 0, 0)).with_column((0, 0, 0, 0)).with_row((0, 0, 0, 1))
        self.assertEqual(odd_rings(more), [(0, 1, 2)])
        self.assertEqual(ring_tolls(more), [(1, 1, 2, 0, 1), (1, 2, 1, 0, 1), (2, 1, 1, 0, 1)])
        for height in (0, 3, 6):
            zeros = Table.zeros(height, 12)
            self.assertEqual((odd_rings(zeros), ring_lots(zeros), ring_tolls(zeros)), ([], [()], [(0,) * height]))
        two = Table([(1, 1, 0, 0), (1, -1, 1, 1), (0, 0, 1, -1)])
        self.assertEqual((odd_rings(two), ring_lots(two)), ([(0, 1), (1, 2)], [(0, 2), (1,)]))
        self.assertEqual(ring_tolls(two), [(1, 2, 1), (2, 1, 2)])
        for call in (odd_rings, ring_lots, ring_tolls):
            call(two).clear()
            self.assertEqual(len(call(two)), 2)

    def test_a_ring_of_six_rows(self):
        ring = ~Table.chain(6).with_row((1, 0, 0, 0, 0, 1))
        self.assertEqual(odd_rings(ring), [(0, 1, 2, 3, 4, 5)])
        self.assertEqual(odd_rings(ring.turned_column(2)), [(0, 1, 2, 3, 4, 5)])
        self.assertEqual(odd_rings(~Table.chain(6).with_row((1, 0, 0, 0, 0, -1))), [])
        # All columns with two numbers of 1 among four rows: each three and no four rows are an odd ring.
        full = Table([[int(i in pair) for pair in itertools.combinations(range(4), 2)] for i in range(4)])
        self.assertEqual(odd_rings(full), [(0, 1, 2), (0, 1, 3), (0, 2, 3), (1, 2, 3)])
        self.assertEqual(ring_lots(full), list(itertools.combinations(range(4), 2)))

    def test_against_all_rings(self):
        lengths = set()
        for table in column_tables(150, 371):
            self.assertTrue(two_a_column(table))
            rings = sorted({tuple(sorted(rows)) for rows, _, odd in plain_rings(table) if odd})
            lengths |= {len(ring) for ring in rings}
            self.assertEqual(odd_rings(table), rings)
            sets = [rows for size in range(table.height + 1) for rows in itertools.combinations(range(table.height), size)
                    if all(set(rows) & set(ring) for ring in rings)]
            least = sorted(rows for rows in sets if not any(set(other) < set(rows) for other in sets))
            self.assertEqual(ring_lots(table), least)
            tolls = sorted(tuple(2 if i in lot else int(any(row)) for i, row in enumerate(table.rows)) for lot in least)
            self.assertEqual(ring_tolls(table), tolls)
        self.assertTrue({2, 3, 4} <= lengths, lengths)

    def test_least_tolls(self):
        for table in column_tables(120, 372, (1, 6), (1, 5)):
            self.assertEqual(ring_tolls(table), least_tolls(table))

    def test_serving(self):
        for table in column_tables(50, 373, (1, 4), (1, 5)):
            rings = odd_rings(table)
            self.assertEqual(plain_firm_table(table), rings == [])
            for tolls in itertools.product((1, 2, 3), repeat=table.height):
                serving = not plain_failing(table, tolls)
                ones = [i for i, q in enumerate(tolls) if q == 1]
                lot = table.lot(ones, list(range(table.columns)))
                self.assertEqual(plain_firm_table(lot), serving)
                self.assertEqual(all(any(tolls[i] > 1 for i in ring) for ring in rings), serving)

    def test_determinants(self):
        for table in column_tables(80, 374, (2, 4), (2, 5)):
            for rows, columns, odd in plain_rings(table):
                lot = table.lot(rows, columns)
                if odd:
                    self.assertEqual(abs(plain_determinant(lot.rows)), 2)
            for rows, _, number in plain_squares(table):
                self.assertIn(abs(number), (0, 1, 2, 4, 8, 16))
                for tolls in ring_tolls(table):
                    product = 1
                    for i in rows:
                        product *= tolls[i]
                    self.assertTrue(abs(number) <= product)

    def test_two_a_row(self):
        seen = {True: 0, False: 0}
        for table in column_tables(60, 375, (1, 5), (2, 4)):
            turned = ~table
            self.assertTrue(two_a_row(turned))
            for tolls in itertools.islice(itertools.product((1, 2, 3), repeat=turned.height), 0, None, 4):
                ones = [i for i, q in enumerate(tolls) if q == 1]
                lot = turned.lot(ones, list(range(turned.columns)))
                serving = serves(turned, tolls)
                seen[serving] += 1
                self.assertEqual(serving, plain_firm_table(lot))
        self.assertTrue(min(seen.values()) > 10, seen)

    def test_zero_tolls_at_rows_of_zeros(self):
        table = RING.with_row((0, 0, 0))
        serving = [q for q in all_tolls(4, 2) if serves(table, q)]
        self.assertEqual(ring_tolls(table), [q for q in serving if not any(
            r != q and all(a <= b for a, b in zip(r, q)) for r in serving)])

    def test_errors(self):
        for call in (odd_rings, ring_lots, ring_tolls):
            self.assertEqual(error_of(call, Table.zeros(7, 2)), ("TooMany", 6))
            self.assertEqual(error_of(call, Table([(2,)] * 7)), ("TooMany", 6))
            for table in (Table([(2,)]), Table([(1,)] * 3), Table([(1, 0), (0, -2)]), Table([(1,)] * 6)):
                self.assertEqual(error_of(call, table), ("NotFitting", "column"))
            self.assertIsNone(error_of(call, Table.unit(6)))
            self.assertIsNone(error_of(call, Table([[1] * 12, [-1] * 12])))


if __name__ == "__main__":
    unittest.main()
