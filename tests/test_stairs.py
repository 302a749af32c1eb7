"""The least couples of tolls that are enough for two rows."""

import itertools
import unittest

from callers import check_calls
from firmers import firm_tables, ones
from makers import long_numbers, plain_failing
from rowmakers import two_rows_each
from splitnumbers.lonetolls import lone_toll
from splitnumbers.numbers import Numbers
from splitnumbers.pairtolls import pair_serves, second_toll
from splitnumbers.stairs import least_even_toll, stairs_of
from splitnumbers.tables import Table

FIRM = list(firm_tables(24, 291, (0, 3), (1, 4)))
FREE = Table.zeros(0, 2)


class StairsTest(unittest.TestCase):
    def test_small_cases(self):
        self.assertEqual(stairs_of(FREE, (3, 3), (3, -3)), [(3, 6), (6, 3)])
        self.assertEqual(least_even_toll(FREE, (3, 3), (3, -3)), 6)
        for table in (FREE, Table.zeros(12, 2), Table([(1, 1)])):
            self.assertEqual(stairs_of(table, (0, 0), (0, 0)), [(1, 1)])
            self.assertEqual(least_even_toll(table, Numbers([0, 0]), [0, 0]), 1)
        self.assertEqual(stairs_of(FREE, (0, 0), (5, 2)), [(1, 5)])
        self.assertEqual(stairs_of(FREE, (5, 2), (0, 0)), [(5, 1)])
        self.assertEqual(stairs_of(FREE, (1, 1), (1, -1)), [(1, 2), (2, 1)])
        self.assertEqual(least_even_toll(FREE, (0, 0), (5, 2)), 5)
        stairs_of(FREE, (3, 3), (3, -3)).clear()
        self.assertEqual(stairs_of(FREE, (3, 3), (3, -3)), [(3, 6), (6, 3)])

    def test_against_all_couples(self):
        lengths = set()
        for table, one, other in two_rows_each(FIRM, 292):
            below = table.with_row(one).with_row(other)
            high = 2 * max(1, lone_toll(table, one)) + 1
            wide = 2 * max(1, lone_toll(table, other)) + 1
            enough = {couple: plain_failing(below, ones(table) + couple) == []
                      for couple in itertools.product(range(1, high + 1), range(1, wide + 1))}
            least = [(h, k) for h, k in sorted(enough) if enough[h, k]
                     and not enough.get((h - 1, k)) and not enough.get((h, k - 1))]
            stairs = stairs_of(table, one, other)
            lengths.add(len(stairs))
            self.assertEqual(stairs, least)
            self.assertEqual(least_even_toll(table, one, other), min(h for h in range(1, high + wide) if enough.get(
                (min(h, high), min(h, wide)))))
            for couple in enough:
                above = any(couple[0] >= h and couple[1] >= k for h, k in stairs)
                self.assertEqual(enough[couple], above)
        self.assertTrue({1, 2} <= lengths)

    def test_order_and_second_tolls(self):
        lengths = set()
        for table, one, other in two_rows_each(list(firm_tables(40, 293, (0, 2), (3, 5))), 294, 9):
            stairs = stairs_of(table, one, other)
            lengths.add(len(stairs))
            self.assertTrue(all(a[0] < b[0] and a[1] > b[1] for a, b in zip(stairs, stairs[1:])))
            self.assertEqual(stairs[0][0], max(1, lone_toll(table, one)))
            self.assertEqual(stairs[-1][1], max(1, lone_toll(table, other)))
            for h, k in stairs:
                self.assertEqual(k, max(1, second_toll(table, one, h, other)))
                self.assertTrue(pair_serves(table, one, other, h, k))
                self.assertFalse(h > 1 and pair_serves(table, one, other, h - 1, k))
                self.assertFalse(k > 1 and pair_serves(table, one, other, h, k - 1))
            self.assertEqual(stairs_of(table, other, one), [couple[::-1] for couple in stairs[::-1]])
        self.assertTrue(max(lengths) >= 3, lengths)

    def test_multiples(self):
        for table, one, other in two_rows_each(FIRM, 295):
            if any(one) and any(other):
                stairs = stairs_of(table, one, other)
                for s, t in ((1, 4), (3, 2), (10 ** 29, 7)):
                    times = stairs_of(table, [s * a for a in one], [t * a for a in other])
                    self.assertEqual(times, [(s * h, t * k) for h, k in stairs])

    def test_long_numbers_and_twelve_rows(self):
        for table in (Table.zeros(12, 7), Table([(1, 1, 0, 0, 0, 0, 0)] * 11)):
            one = long_numbers(7, 3)
            other = long_numbers(7, 4)
            stairs = stairs_of(table, one, other)
            for h, k in stairs:
                self.assertTrue(pair_serves(table, one, other, h, k))
                self.assertFalse(pair_serves(table, one, other, h - 1, k))
                self.assertFalse(pair_serves(table, one, other, h, k - 1))
            h = least_even_toll(table, one, other)
            self.assertTrue(pair_serves(table, one, other, h, h))
            self.assertFalse(pair_serves(table, one, other, h - 1, h - 1))

    def test_errors(self):
        check_calls(self, stairs_of, ("row", "row"))
        check_calls(self, least_even_toll, ("row", "row"))


if __name__ == "__main__":
    unittest.main()
