"""Tables put in for a column."""

import itertools
import unittest

from firmers import firm_tables, negative, plain_firm_table, plain_lones
from makers import WRONG_INTEGERS, WRONG_KINDS, all_tolls, error_of, plain_failing, some_tables
from rowmakers import dot
from splitnumbers.joining import at_row
from splitnumbers.lonesums import firm_lones
from splitnumbers.putting import is_telling, put_in
from splitnumbers.tables import Table

A = Table([(1, 2, 3), (4, 5, 6)])
B = Table([(7, 8), (9, -1), (-2, -3)])
WRONG_TABLES = (None, 5, [(1, 1)], ((1, 1),), "table", A.rows)


class PutInTest(unittest.TestCase):
    def test_small_cases(self):
        self.assertEqual(put_in(A, 0, B, 1), Table([(2, 3, 9, -1), (5, 6, 36, -4), (0, 0, 7, 8), (0, 0, -2, -3)]))
        self.assertEqual(put_in(A, 2, B, 0), Table([(1, 2, 21, 24), (4, 5, 42, 48), (0, 0, 9, -1), (0, 0, -2, -3)]))
        self.assertEqual(put_in(A, 1, B, 2), Table([(1, 3, -4, -6), (4, 6, -10, -15), (0, 0, 7, 8), (0, 0, 9, -1)]))
        # Column j alone, row k alone, no rows at all.
        self.assertEqual(put_in(Table([(3,), (-1,)]), 0, B, 1), Table([(27, -3), (-9, 1), (7, 8), (-2, -3)]))
        self.assertEqual(put_in(A, 1, Table([(1, 0)]), 0), Table([(1, 3, 2, 0), (4, 6, 5, 0)]))
        self.assertEqual(put_in(Table([(3,)]), 0, Table([(2,)]), 0), Table([(6,)]))
        self.assertEqual(put_in(Table.zeros(0, 2), 1, B, 0), Table([(0, 9, -1), (0, -2, -3)]))
        self.assertEqual(put_in(Table.zeros(0, 1), 0, Table([(1, 1)]), 0), Table.zeros(0, 2))
        self.assertEqual((A.rows, B.rows), (((1, 2, 3), (4, 5, 6)), ((7, 8), (9, -1), (-2, -3))))

    def test_sizes(self):
        self.assertEqual(put_in(Table.zeros(6, 7), 6, Table.zeros(7, 6), 6), Table.zeros(12, 12))
        self.assertEqual(put_in(Table.zeros(12, 12), 0, Table.zeros(1, 1), 0), Table.zeros(12, 12))
        for one, other, word in ((Table.zeros(6, 7), Table.zeros(8, 6), "rows"), (Table.zeros(6, 7), Table.zeros(7, 7), "columns"),
                                 (Table.zeros(12, 12), Table.zeros(2, 2), "rows"), (Table.zeros(0, 12), Table.zeros(1, 2), "columns")):
            self.assertEqual(error_of(put_in, one, 0, other, 0), ("BadNumber", word))

    def test_errors(self):
        many = Table.zeros(12, 12)
        for wrong in WRONG_TABLES:
            self.assertEqual(error_of(put_in, wrong, None, None, None), ("BadTable", 0))
            self.assertEqual(error_of(put_in, many, 0, wrong, None), ("BadTable", 1))
            self.assertEqual(error_of(is_telling, wrong, None, None, None, None), ("BadTable", 0))
            self.assertEqual(error_of(is_telling, A, 0, (1, 1), wrong, None), ("BadTable", 1))
        for wrong in WRONG_INTEGERS + (-1, 12, 99):
            self.assertEqual(error_of(put_in, many, wrong, None, None), ("BadSpot", "column"))
            self.assertEqual(error_of(put_in, A, 0, many, wrong), ("BadSpot", "row"))
            self.assertEqual(error_of(is_telling, many, wrong, None, None, None), ("BadSpot", "column"))
            self.assertEqual(error_of(is_telling, A, 0, (1, 1), many, wrong), ("BadSpot", "row"))
        self.assertEqual(error_of(put_in, A, 0, Table.zeros(0, 2), 0), ("BadSpot", "row"))
        for wrong in WRONG_KINDS:
            self.assertEqual(error_of(is_telling, A, 0, wrong, None, None), ("BadTolls", -1))
        for wrong in WRONG_INTEGERS + (-1,):
            self.assertEqual(error_of(is_telling, A, 0, (1, wrong), None, None), ("BadTolls", 1))
        for tolls in ((), (1,), [1] * 3):
            self.assertEqual(error_of(is_telling, A, 0, tolls, None, None), ("OtherSize", 2))


class TellingTest(unittest.TestCase):
    def test_small_cases(self):
        self.assertIs(is_telling(A, 0, (1, 1), B, 1), True)
        self.assertIs(is_telling(A, 0, [1, 1], B, 0), False)
        self.assertIs(is_telling(A, 0, (2, 8), B, 1), False)
        self.assertIs(is_telling(A, 0, (2, 7), B, 1), True)
        self.assertIs(is_telling(Table([(-2, 0)]), 0, (3,), Table([(0, 1)]), 0), True)
        self.assertIs(is_telling(Table([(-2, 0)]), 0, (4,), Table([(0, 1)]), 0), False)
        self.assertIs(is_telling(Table([(-2, 0)]), 1, (0,), Table([(0, 1)]), 0), False)
        self.assertIs(is_telling(Table.zeros(0, 1), 0, (), Table([(1,)]), 0), False)

    def test_serving_tolls(self):
        seen = {}
        ones = list(some_tables(40, 381, (1, 2), (1, 3), 2))
        others = list(some_tables(40, 382, (1, 2), (1, 2), 2))
        for one, other in zip(ones, others):
            for j, k in itertools.product(range(one.columns), range(other.height)):
                table = put_in(one, j, other, k)
                for q in all_tolls(one.height, 3):
                    for p in all_tolls(other.height - 1, 3):
                        serving = not plain_failing(table, q + p)
                        both = not plain_failing(one, q) and not plain_failing(other, p[:k] + (1,) + p[k:])
                        telling = is_telling(one, j, q, other, k)
                        seen[serving, both, telling] = seen.get((serving, both, telling), 0) + 1
                        self.assertTrue(serving or not both)
                        self.assertTrue(both or not (serving and telling))
        # What is not telling may serve although the tables do not.
        self.assertTrue(seen[True, False, False] > 0)
        self.assertTrue(seen[False, False, True] > 0)
        self.assertTrue(seen[True, True, True] > 50, seen)

    def test_firm_tables_and_their_lone_splits(self):
        looked_at = 0
        for one, other in zip(firm_tables(30, 383, (1, 3), (1, 4)), firm_tables(30, 384, (1, 3), (1, 4))):
            for j, k in itertools.product(range(one.columns), range(other.height)):
                table = put_in(one, j, other, k)
                if table.columns > 6:
                    continue
                self.assertTrue(plain_firm_table(table))
                if any(one.column(j)):
                    looked_at += 1
                    self.assertEqual(firm_lones(table), self.told(one, j, other, k))
        self.assertTrue(looked_at > 50, looked_at)

    def told(self, one, j, other, k):
        """The leading lone splits as the document tells them."""
        found = {x[:j] + x[j + 1:] + (0,) * other.columns for x in plain_lones(one) if x[j] == 0}
        found |= {(0,) * (one.columns - 1) + u for u in plain_lones(other) if dot(other[k], u) == 0}
        for x, u in itertools.product(plain_lones(one), plain_lones(other)):
            total = dot(other[k], u)
            if x[j] and abs(total) == 1:
                found.add(x[:j] + x[j + 1:] + (u if total == x[j] else negative(u)))
        return sorted({max(x, negative(x)) for x in found})

    def test_joined_at_a_row(self):
        # A row of A that is 1 at column j alone is, with B put in, joined to B at this row.
        one = Table([(0, 1), (1, 1)])
        self.assertEqual(put_in(one, 1, Table([(1, 1), (1, 0)]), 0), Table([(0, 1, 1), (1, 1, 1), (0, 1, 0)]))
        self.assertEqual(at_row(Table([(1,)]), 0, Table([(1, 1), (1, 0)]), 0), Table([(1, 1, 1), (0, 1, 0)]))


if __name__ == "__main__":
    unittest.main()
