"""Tables joined at a row, at a column and along the corner."""

import itertools
import unittest

from firmers import firm_tables, negative, plain_determinant, plain_firm_table, plain_lones, square_tables
from makers import WRONG_INTEGERS, WRONG_KINDS, all_tolls, error_of, long_numbers, plain_failing, some_numbers, some_tables
from rowmakers import dot, worth
from splitnumbers.joining import at_column, at_row, blocks_table, joined_lones, tolls_at_row
from splitnumbers.leasts import least_equal, least_tolls
from splitnumbers.lones import lone_splits
from splitnumbers.lonesums import firm_lones
from splitnumbers.lonetolls import lone_toll
from splitnumbers.tables import Table
from splitnumbers.tolls import serves

A = Table([(1, 2, 3), (4, 5, 6)])
B = Table([(7, 8), (9, -1), (-2, -3)])
WRONG_TABLES = (None, 5, [(1, 1)], ((1, 1),), "table", A.rows)


def tables(many, seed, heights=(1, 2), widths=(1, 2), greatest=2):
    return list(some_tables(many, seed, heights, widths, greatest))


def couples(many, seed, heights=(1, 2), widths=(1, 2), greatest=2):
    return list(zip(tables(many, seed, heights, widths, greatest), tables(many, seed + 1, heights, widths, greatest)))


def serving(table, greatest):
    return [q for q in all_tolls(table.height, greatest) if not plain_failing(table, q)]


class AtRowTest(unittest.TestCase):
    def test_small_cases(self):
        self.assertEqual(at_row(A, 0, B, 1), Table([(1, 2, 3, 9, -1), (4, 5, 6, 0, 0), (0, 0, 0, 7, 8), (0, 0, 0, -2, -3)]))
        self.assertEqual(at_row(A, 1, B, 0), Table([(1, 2, 3, 0, 0), (4, 5, 6, 7, 8), (0, 0, 0, 9, -1), (0, 0, 0, -2, -3)]))
        self.assertEqual(at_row(A, 1, B, 2), Table([(1, 2, 3, 0, 0), (4, 5, 6, -2, -3), (0, 0, 0, 7, 8), (0, 0, 0, 9, -1)]))
        self.assertEqual(at_row(Table([(5,)]), 0, Table([(6,)]), 0), Table([(5, 6)]))
        self.assertEqual((A.rows, B.rows), (((1, 2, 3), (4, 5, 6)), ((7, 8), (9, -1), (-2, -3))))

    def test_tolls(self):
        self.assertEqual(tolls_at_row((1, 2, 3, 4), 2, 0, 3, 1), ((1, 2), (3, 1, 4)))
        self.assertEqual(tolls_at_row([1, 2, 3, 4], 2, 1, 3, 0), ((1, 2), (2, 3, 4)))
        self.assertEqual(tolls_at_row((1, 2, 3, 4), 2, 1, 3, 2), ((1, 2), (3, 4, 2)))
        self.assertEqual(tolls_at_row((7,), 1, 0, 1, 0), ((7,), (7,)))

    def test_serving_tolls_and_least_tolls(self):
        for one, other in couples(25, 341):
            for i, k in itertools.product(range(one.height), range(other.height)):
                joined = at_row(one, i, other, k)
                for q in all_tolls(joined.height, 4):
                    first, second = tolls_at_row(q, one.height, i, other.height, k)
                    both = not plain_failing(one, first) and not plain_failing(other, second)
                    self.assertEqual(not plain_failing(joined, q), both)
                raised = [p[:i] + (max(p[i], r[k]),) + p[i + 1:] + r[:k] + r[k + 1:]
                          for p in least_tolls(one) for r in least_tolls(other)]
                least = [p for p in set(raised)
                         if not any(r != p and all(a <= b for a, b in zip(r, p)) for r in raised)]
                self.assertEqual(least_tolls(joined), sorted(least))
                self.assertEqual(least_equal(joined), max(least_equal(one), least_equal(other)))

    def test_firm_tables_and_their_lone_splits(self):
        looked_at = 0
        ones = list(firm_tables(30, 342, (1, 3), (1, 3)))
        for one, other in zip(ones, list(firm_tables(30, 343, (1, 3), (1, 3)))):
            for i, k in itertools.product(range(one.height), range(other.height)):
                joined = at_row(one, i, other, k)
                self.assertTrue(plain_firm_table(joined))
                lones = {x + (0,) * other.columns for x in plain_lones(one)}
                lones |= {(0,) * one.columns + y for y in plain_lones(other)}
                for u, v in itertools.product(plain_lones(one), plain_lones(other)):
                    if worth(one[i], u) == 1 and worth(other[k], v) == 1:
                        looked_at += 1
                        lones.add(u + (negative(v) if dot(one[i], u) == dot(other[k], v) else v))
                self.assertEqual(firm_lones(joined), sorted(lones))
        self.assertTrue(looked_at > 50, looked_at)

    def test_sizes(self):
        self.assertEqual(at_row(Table.zeros(6, 6), 5, Table.zeros(7, 6), 6), Table.zeros(12, 12))
        for one, other, word in ((Table.zeros(6, 6), Table.zeros(8, 6), "rows"), (Table.zeros(6, 6), Table.zeros(7, 7), "columns"),
                                 (Table.zeros(12, 12), Table.zeros(2, 1), "rows"), (Table.zeros(1, 12), Table.zeros(1, 1), "columns")):
            self.assertEqual(error_of(at_row, one, 0, other, 0), ("BadNumber", word))

    def test_errors(self):
        many = Table.zeros(12, 12)
        for wrong in WRONG_TABLES:
            self.assertEqual(error_of(at_row, wrong, None, None, None), ("BadTable", 0))
            self.assertEqual(error_of(at_row, many, 0, wrong, None), ("BadTable", 1))
        for wrong in WRONG_INTEGERS + (-1, 12, 99):
            self.assertEqual(error_of(at_row, many, wrong, None, None), ("BadSpot", "row"))
            self.assertEqual(error_of(at_row, A, 0, many, wrong), ("BadSpot", "row"))
        self.assertEqual(error_of(at_row, Table.zeros(0, 2), 0, None, 0), ("BadSpot", "row"))
        self.assertEqual(error_of(at_row, A, 0, Table.zeros(0, 2), 0), ("BadSpot", "row"))
        for wrong in WRONG_KINDS:
            self.assertEqual(error_of(tolls_at_row, wrong, 2, None, 3, None), ("BadTolls", -1))
        for wrong in WRONG_INTEGERS + (-1,):
            self.assertEqual(error_of(tolls_at_row, (1, wrong), 2, None, 3, None), ("BadTolls", 1))
        for tolls in ((), (1, 1, 1), [1] * 5):
            self.assertEqual(error_of(tolls_at_row, tolls, 2, None, 3, None), ("OtherSize", 4))
        for wrong in WRONG_INTEGERS + (-1, 3):
            self.assertEqual(error_of(tolls_at_row, (1,) * 4, 2, 0, 3, wrong), ("BadSpot", "row"))
            self.assertEqual(error_of(tolls_at_row, (1,) * 4, 3, wrong, 2, 0), ("BadSpot", "row"))


class AtColumnTest(unittest.TestCase):
    def test_small_cases(self):
        self.assertEqual(at_column(A, 0, B, 1), Table(
            [(1, 2, 3, 0), (4, 5, 6, 0), (8, 0, 0, 7), (-1, 0, 0, 9), (-3, 0, 0, -2)]))
        self.assertEqual(at_column(A, 1, B, 0), Table(
            [(1, 2, 3, 0), (4, 5, 6, 0), (0, 7, 0, 8), (0, 9, 0, -1), (0, -2, 0, -3)]))
        self.assertEqual(at_column(A, 2, B, 0), Table(
            [(1, 2, 3, 0), (4, 5, 6, 0), (0, 0, 7, 8), (0, 0, 9, -1), (0, 0, -2, -3)]))
        self.assertEqual(at_column(Table([(5,)]), 0, Table([(6,)]), 0), Table([(5,), (6,)]))
        self.assertEqual(at_column(Table.zeros(0, 2), 1, Table.zeros(0, 3), 2), Table.zeros(0, 4))
        self.assertEqual(at_column(Table.zeros(0, 2), 1, Table([(5, 6)]), 1), Table([(0, 6, 5)]))
        self.assertEqual(at_column(Table([(5, 6)]), 0, Table.zeros(0, 2), 0), Table([(5, 6, 0)]))

    def test_serving_tolls_and_least_tolls(self):
        for one, other in couples(25, 344):
            for j, l in itertools.product(range(one.columns), range(other.columns)):
                joined = at_column(one, j, other, l)
                for q in all_tolls(joined.height, 4):
                    both = not plain_failing(one, q[:one.height]) and not plain_failing(other, q[one.height:])
                    self.assertEqual(not plain_failing(joined, q), both)
                least = [p + r for p in least_tolls(one) for r in least_tolls(other)]
                self.assertEqual(least_tolls(joined), least)
                self.assertEqual(least_equal(joined), max(least_equal(one), least_equal(other)))

    def test_firm_tables(self):
        for one, other in zip(firm_tables(25, 345, (0, 3), (1, 3)), firm_tables(25, 346, (0, 3), (1, 3))):
            for j, l in itertools.product(range(one.columns), range(other.columns)):
                self.assertTrue(plain_firm_table(at_column(one, j, other, l)))

    def test_lone_splits_at_any_tolls(self):
        failing = 0
        for one, other in couples(14, 347, (0, 2), (1, 3)):
            for j, l in itertools.product(range(one.columns), range(other.columns)):
                joined = at_column(one, j, other, l)
                for tolls in itertools.product(range(4), repeat=joined.height):
                    q, p = tolls[:one.height], tolls[one.height:]
                    failing += bool(plain_failing(joined, tolls))
                    expected = self.told(one, j, other, l, plain_lones(one, q), plain_lones(other, p))
                    self.assertEqual(joined_lones(one, j, other, l, q, list(p)), expected)
                    self.assertEqual(lone_splits(joined, tolls), expected)
        self.assertTrue(failing > 100)

    def told(self, one, j, other, l, firsts, seconds):
        """The leading lone splits as the document tells them."""
        found = {x + (0,) * (other.columns - 1) for x in firsts if x[j] == 0}
        found |= {(0,) * one.columns + y[:l] + y[l + 1:] for y in seconds if y[l] == 0}
        for x, y in itertools.product(firsts, seconds):
            for v in (y, negative(y)):
                if x[j] == v[l] != 0:
                    found.add(x + v[:l] + v[l + 1:])
        leading = set()
        for x in found:
            self.assertNotIn(negative(x), leading)
            leading.add(max(x, negative(x)))
        return sorted(leading)

    def test_small_lone_splits(self):
        couple = Table([(1, 1)])
        self.assertEqual(joined_lones(couple, 1, couple, 0, (1,), (1,)),
                         [(0, 0, 1), (0, 1, -1), (0, 1, 0), (1, -1, 0), (1, -1, 1), (1, 0, 0)])
        self.assertEqual(joined_lones(couple, 0, couple, 0, [0], (1,)), [(0, 0, 1), (1, -1, -1), (1, -1, 0)])
        joined_lones(couple, 1, couple, 0, (1,), (1,)).clear()
        self.assertEqual(len(joined_lones(couple, 1, couple, 0, (1,), (1,))), 6)
        chain = Table.chain(4)
        self.assertEqual(joined_lones(chain, 3, chain, 0, (1,) * 3, (1,) * 3), firm_lones(Table.chain(7)))

    def test_sizes(self):
        self.assertEqual(at_column(Table.zeros(6, 6), 5, Table.zeros(6, 7), 6), Table.zeros(12, 12))
        for one, other, word in ((Table.zeros(6, 6), Table.zeros(7, 7), "rows"), (Table.zeros(6, 6), Table.zeros(6, 8), "columns"),
                                 (Table.zeros(12, 12), Table.zeros(1, 2), "rows"), (Table.zeros(0, 12), Table.zeros(0, 2), "columns")):
            self.assertEqual(error_of(at_column, one, 0, other, 0), ("BadNumber", word))
            self.assertEqual(error_of(joined_lones, one, 0, other, 0, None, None), ("BadNumber", word))

    def test_errors(self):
        many = Table.zeros(12, 12)
        for call, more in ((at_column, ()), (joined_lones, (None, None))):
            for wrong in WRONG_TABLES:
                self.assertEqual(error_of(call, wrong, None, None, None, *more), ("BadTable", 0))
                self.assertEqual(error_of(call, many, 0, wrong, None, *more), ("BadTable", 1))
            for wrong in WRONG_INTEGERS + (-1, 12, 99):
                self.assertEqual(error_of(call, many, wrong, None, None, *more), ("BadSpot", "column"))
                self.assertEqual(error_of(call, A, 0, many, wrong, *more), ("BadSpot", "column"))
        wide = Table.zeros(2, 8)
        for wrong in WRONG_KINDS:
            self.assertEqual(error_of(joined_lones, wide, 0, B, 0, wrong, None), ("BadTolls", -1))
            self.assertEqual(error_of(joined_lones, wide, 0, B, 0, (1, 1), wrong), ("BadTolls", -1))
        for wrong in WRONG_INTEGERS + (-1,):
            self.assertEqual(error_of(joined_lones, wide, 0, B, 0, (1, wrong, None), None), ("BadTolls", 1))
            self.assertEqual(error_of(joined_lones, wide, 0, B, 0, (1, 1), (1, wrong)), ("BadTolls", 1))
        self.assertEqual(error_of(joined_lones, wide, 0, B, 0, (1,), None), ("OtherSize", 2))
        self.assertEqual(error_of(joined_lones, wide, 0, B, 0, (1, 1), (1, 1)), ("OtherSize", 3))
        self.assertEqual(error_of(joined_lones, wide, 0, B, 0, (1, 1), (1, 1, 1)), ("TooMany", 7))
        self.assertEqual(error_of(joined_lones, Table.zeros(0, 4), 0, Table.zeros(0, 5), 0, (), ()), ("TooMany", 7))
        self.assertEqual(len(joined_lones(Table.zeros(0, 4), 0, Table.zeros(0, 4), 0, (), ())), 7)


class CornerTest(unittest.TestCase):
    def test_small_cases(self):
        self.assertEqual(blocks_table(A), A)
        self.assertEqual(blocks_table(A, B), Table([(1, 2, 3, 0, 0), (4, 5, 6, 0, 0), (0, 0, 0, 7, 8),
                                                    (0, 0, 0, 9, -1), (0, 0, 0, -2, -3)]))
        self.assertEqual(blocks_table(Table([(5,)]), Table.zeros(0, 2), Table([(6,), (7,)])),
                         Table([(5, 0, 0, 0), (0, 0, 0, 6), (0, 0, 0, 7)]))
        self.assertEqual(blocks_table(Table.zeros(0, 1)), Table.zeros(0, 1))
        self.assertEqual(blocks_table(*[Table.unit(1)] * 12), Table.unit(12))

    def test_serving_tolls(self):
        for one, other in couples(30, 348):
            third = Table([(2, 1)])
            for group in ((one, other), (one, third, other)):
                joined = blocks_table(*group)
                for q in all_tolls(joined.height, 3):
                    left, each = q, True
                    for table in group:
                        each = each and not plain_failing(table, left[:table.height])
                        left = left[table.height:]
                    self.assertEqual(serves(joined, q), each)

    def test_determinants(self):
        for one, other, third in zip(*[square_tables(20, seed, (1, 2)) for seed in (349, 350, 351)]):
            product = plain_determinant(one.rows) * plain_determinant(other.rows) * plain_determinant(third.rows)
            self.assertEqual(plain_determinant(blocks_table(one, other, third).rows), product)

    def test_tolls_of_rows(self):
        for k, (one, other) in enumerate(zip(firm_tables(25, 352, (0, 3), (1, 3)), firm_tables(25, 353, (0, 3), (1, 3)))):
            c, d = some_numbers(one.columns, k, -5, 5), long_numbers(other.columns, k, 6)
            toll = max(lone_toll(one, c), lone_toll(other, d))
            self.assertEqual(lone_toll(blocks_table(one, other), c + d), toll)

    def test_errors(self):
        self.assertEqual(error_of(blocks_table), ("BadNumber", "tables"))
        big = Table.zeros(12, 12)
        for wrong in WRONG_TABLES:
            self.assertEqual(error_of(blocks_table, wrong), ("BadTable", 0))
            self.assertEqual(error_of(blocks_table, big, big, wrong, None), ("BadTable", 2))
        for group, word in (((big, Table.zeros(1, 1)), "rows"), ((big, Table.zeros(0, 1)), "columns"),
                            ((Table.zeros(6, 1),) * 3, "rows"), ((Table.zeros(1, 5),) * 3, "columns"),
                            ((Table.zeros(7, 7), Table.zeros(6, 6)), "rows")):
            self.assertEqual(error_of(blocks_table, *group), ("BadNumber", word))
        self.assertEqual(blocks_table(Table.zeros(7, 5), Table.zeros(5, 7)), Table.zeros(12, 12))


if __name__ == "__main__":
    unittest.main()
