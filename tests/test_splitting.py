"""Odd and even rows, splits of a part, lowered tolls."""

import unittest

from makers import WRONG_KINDS, all_tolls, error_of, plain_parts, plain_signs, plain_splits, plain_sums, some_tables
from splitnumbers.splitting import even_rows, first_split, is_split, lowered_tolls, odd_rows, splits_of
from splitnumbers.tables import Table

T = Table([(1, 2, 3), (0, -1, 1)])


class SplittingTest(unittest.TestCase):
    def test_odd_and_even_rows(self):
        self.assertEqual(odd_rows(T, [2, 0]), (1,))
        self.assertEqual(even_rows(T, (0, 2)), (0,))
        self.assertEqual((odd_rows(T, []), even_rows(T, [])), ((), (0, 1)))
        self.assertEqual((odd_rows(Table([(-1, 3), (-2, -3)]), [0]), even_rows(Table([(-3,), (-2,)]), [0])), ((0,), (1,)))
        for table in some_tables(60):
            for part in plain_parts(table.columns):
                odd = tuple(i for i, row in enumerate(table.rows) if sum(row[j] for j in part) % 2)
                self.assertEqual(odd_rows(table, part), odd)
                self.assertEqual(even_rows(table, part[::-1]), tuple(i for i in range(table.height) if i not in odd))

    def test_is_split(self):
        self.assertIs(is_split(T, [2, 2], [1, 1, -1]), True)
        self.assertIs(is_split(T, (0, 1), (1, 1, -1)), False)
        self.assertIs(is_split(T, (0, 2), (1, 1, -1)), True)
        self.assertIs(is_split(T, (0, 0), (0, 0, 0)), True)
        self.assertIs(is_split(Table.zeros(0, 2), (), (1, -1)), True)
        for table in some_tables(40, seed=3):
            for tolls in all_tolls(table.height, 2):
                for part in plain_parts(table.columns):
                    splits = plain_splits(table, tolls, part)
                    for x in plain_signs(part, table.columns):
                        self.assertEqual(is_split(table, tolls, x), x in splits)

    def test_splits_of(self):
        self.assertEqual(splits_of(T, (2, 2), (2, 0)), [(-1, 0, 1), (1, 0, -1)])
        self.assertEqual(splits_of(T, (0, 0), []), [(0, 0, 0)])
        self.assertEqual(splits_of(T, (0, 0), [0]), [])
        self.assertEqual((first_split(T, (0, 0), [0]), first_split(T, (1, 0), [0])), (None, (-1, 0, 0)))
        self.assertEqual(first_split(T, [0, 0], ()), (0, 0, 0))
        for table in some_tables(60, seed=4):
            for tolls in all_tolls(table.height, 3):
                for part in plain_parts(table.columns):
                    plain = plain_splits(table, tolls, part)
                    self.assertEqual(splits_of(table, tolls, part), plain)
                    self.assertEqual(first_split(table, list(tolls), list(part)), plain[0] if plain else None)

    def test_twelve_columns(self):
        wide = Table([(1,) * 12])
        self.assertEqual(len(splits_of(wide, (0,), list(range(12)))), 924)
        self.assertEqual(first_split(wide, (0,), list(range(12))), (-1,) * 6 + (1,) * 6)
        self.assertEqual(len(splits_of(Table.zeros(12, 12), (0,) * 12, tuple(range(12)))), 4096)

    def test_new_list_at_each_call(self):
        first = splits_of(T, (9, 9), [0])
        first.append(None)
        self.assertEqual(splits_of(T, (9, 9), [0]), [(-1, 0, 0), (1, 0, 0)])

    def test_lowered_tolls(self):
        self.assertEqual(lowered_tolls(T, (3, 3), (0, 2)), (2, 3))
        self.assertEqual(lowered_tolls(T, (2, 2), [2, 0]), (2, 1))
        self.assertEqual(lowered_tolls(T, (0, 0), [0, 2]), (0, 0))
        self.assertEqual(lowered_tolls(T, (1, 4), []), (0, 4))
        for table in some_tables(40, seed=5):
            for tolls in all_tolls(table.height, 3):
                for part in plain_parts(table.columns):
                    sums = plain_sums(table, [int(j in part) for j in range(table.columns)])
                    plain = tuple(q - 1 if q > 0 and q % 2 != s % 2 else q for q, s in zip(tolls, sums))
                    self.assertEqual(lowered_tolls(table, tolls, part), plain)

    def test_errors_of_parts_alone(self):
        for call in (odd_rows, even_rows):
            for wrong in WRONG_KINDS:
                self.assertEqual(error_of(call, T, wrong), ("BadSet", -1))
            self.assertEqual(error_of(call, T, [0, 3]), ("BadSet", 1))
            self.assertEqual(error_of(call, T, [0, 1, 1]), ("BadSet", 2))

    def test_errors_of_tolls_then_parts(self):
        for call in (splits_of, first_split, lowered_tolls):
            for wrong in WRONG_KINDS:
                self.assertEqual(error_of(call, T, wrong, [9]), ("BadTolls", -1))
                self.assertEqual(error_of(call, T, (1, 1), wrong), ("BadSet", -1))
            self.assertEqual(error_of(call, T, (1, -1, None), [9]), ("BadTolls", 1))
            self.assertEqual(error_of(call, T, (1, True), [9]), ("BadTolls", 1))
            self.assertEqual(error_of(call, T, (1, 1, 1), [9]), ("OtherSize", 2))
            self.assertEqual(error_of(call, T, (1, 1), [0, 0]), ("BadSet", 1))

    def test_errors_of_is_split(self):
        self.assertEqual(error_of(is_split, T, (None, 1), None), ("BadTolls", 0))
        self.assertEqual(error_of(is_split, T, (1,), None), ("OtherSize", 2))
        self.assertEqual(error_of(is_split, T, (1, 1), None), ("BadSigns", -1))
        self.assertEqual(error_of(is_split, T, (1, 1), (1, 2, 0, 0)), ("BadSigns", 1))
        self.assertEqual(error_of(is_split, T, (1, 1), (1, 0)), ("OtherSize", 3))


if __name__ == "__main__":
    unittest.main()
