"""Ways free, lone splits of firm tables, pieces."""

import itertools
import unittest

from firmers import (added, beside_one_another, even_rows_of, firm_tables, is_plain_lone, negative, ones, plain_lones,
                     selections)
from makers import (WRONG_INTEGERS, WRONG_KINDS, error_of, plain_parts, plain_signs, plain_splits, plain_sums,
                    some_tables)
from splitnumbers.lonesums import firm_lones, lone_pieces, lone_way, ways_free
from splitnumbers.numbers import Numbers
from splitnumbers.tables import Table
from test_ranks import plain_rank

FIRM = list(firm_tables(50, 181, (0, 4), (1, 5)))
UNFIRM = Table([(1, 1), (1, -1)])


def plain_ways(table, part):
    return len(part) - plain_rank([[table[i][j] for j in part] for i in even_rows_of(table, part)])


class WaysFreeTest(unittest.TestCase):
    def test_small_cases(self):
        table = Table([(1, 1, 1)])
        self.assertEqual([ways_free(table, part) for part in ((), (0,), (0, 1), [2, 0, 1])], [0, 1, 1, 3])
        self.assertEqual(ways_free(Table.zeros(0, 5), (1, 3)), 2)
        self.assertEqual(ways_free(Table([(2, 4), (1, 2)]), (0, 1)), 1)
        self.assertEqual(ways_free(Table([(2, 4), (1, 3)]), (0, 1)), 0)
        self.assertEqual(ways_free(Table.zeros(12, 12), list(range(12))), 12)
        self.assertEqual(ways_free(Table.chain(12), list(range(12))), 1)
        self.assertEqual(ways_free(Table([(10 ** 30, 2), (10 ** 30, 4)]), (0, 1)), 0)

    def test_any_tables(self):
        for table in some_tables(80, 182, (0, 4), (1, 5), 3):
            for part in plain_parts(table.columns):
                self.assertEqual(ways_free(table, part[::-1]), plain_ways(table, part))

    def test_errors(self):
        wide = Table.zeros(1, 8)
        for wrong in WRONG_KINDS:
            self.assertEqual(error_of(ways_free, wide, wrong), ("BadSet", -1))
            self.assertEqual(error_of(lone_way, wide, wrong), ("BadSet", -1))
        for call in (ways_free, lone_way):
            for wrong in WRONG_INTEGERS + (0, 8, -1):
                self.assertEqual(error_of(call, wide, [0, wrong, None]), ("BadSet", 1))
        for part in ((), (0,), [7, 0]):
            self.assertEqual(error_of(lone_way, wide, part), ("TooMany", 7))
            self.assertIsNone(error_of(ways_free, wide, part))
        for part in ((), (0,), (0, 1)):
            self.assertEqual(error_of(lone_way, UNFIRM, part), ("NotFirm", (0, 1)))
            self.assertIsNone(error_of(ways_free, UNFIRM, part))


class LonesTest(unittest.TestCase):
    def test_small_cases(self):
        table = Table([(1, 1, 1)])
        lones = [(0, 0, 1), (0, 1, -1), (0, 1, 0), (1, -1, 0), (1, 0, -1), (1, 0, 0)]
        self.assertEqual(firm_lones(table), lones)
        self.assertEqual(lone_way(table, (2, 0)), (1, 0, -1))
        self.assertIsNone(lone_way(table, ()))
        self.assertIsNone(lone_way(table, (0, 1, 2)))
        self.assertEqual(firm_lones(Table.chain(7))[0], (0, 0, 0, 0, 0, 0, 1))
        self.assertEqual(len(firm_lones(Table.chain(7))), 28)
        firm_lones(table).clear()
        self.assertEqual(firm_lones(table), lones)

    def test_splits_by_sums(self):
        for table in FIRM:
            for part in plain_parts(table.columns):
                even = even_rows_of(table, part)
                by_sums = [x for x in plain_signs(part, table.columns)
                           if all(s == 0 if i in even else abs(s) == 1 for i, s in enumerate(plain_sums(table, x)))]
                self.assertEqual(plain_splits(table, ones(table), part), by_sums)

    def test_lone_splits_by_ways(self):
        for table in FIRM:
            lones = plain_lones(table)
            self.assertEqual(firm_lones(table), lones)
            for part in plain_parts(table.columns):
                even = even_rows_of(table, part)
                free = ways_free(table, part)
                signs = [x for x in plain_signs(part, table.columns) if not any(plain_sums(table, x)[i] for i in even)]
                by_ways = signs if free == 1 else []
                listed = [x for x in plain_signs(part, table.columns) if x in lones or negative(x) in lones]
                self.assertEqual(by_ways, listed)
                self.assertEqual(lone_way(table, part[::-1]), by_ways[-1] if by_ways else None)

    def test_lone_splits_by_multiples(self):
        for table in FIRM[:12]:
            lones = plain_lones(table)
            for x in itertools.product((-1, 0, 1), repeat=table.columns):
                if any(x):
                    # Rows of integers that are no multiple of x need numbers of at most 1 in a firm table.
                    others = [y for y in itertools.product((-1, 0, 1), repeat=table.columns)
                              if all(b == 0 for a, b in zip(x, y) if a == 0)
                              and all(t == 0 for s, t in zip(plain_sums(table, x), plain_sums(table, y)) if s == 0)
                              and y not in (x, negative(x), (0,) * len(x))]
                    self.assertEqual(others == [], x in lones or negative(x) in lones)

    def test_sums_and_columns(self):
        for table in FIRM:
            lones = firm_lones(table)
            for x in lones:
                self.assertTrue(all(abs(s) <= 1 for s in plain_sums(table, x)))
                self.assertLessEqual(sum(map(abs, x)), table.height + 1)
            singles = [tuple(int(k == j) for k in range(table.columns)) for j in range(table.columns)]
            self.assertTrue(set(singles) <= set(lones))
            if table.height == 0:
                self.assertEqual(lones, sorted(singles))

    def test_numbers_of_splits(self):
        seen = set()
        for table in FIRM:
            self.assertEqual(len(plain_splits(table, ones(table), ())), 1)
            for part in plain_parts(table.columns)[1:]:
                f = ways_free(table, part)
                many = len(plain_splits(table, ones(table), part))
                seen.add((f, many))
                self.assertTrue(f >= 1 and many % 2 == 0 and max(2, 2 * f) <= many <= 2 ** f)
                self.assertEqual((many == 2, many == 4), (f == 1, f == 2))
                self.assertTrue(f != 3 or many in (6, 8))
        self.assertTrue({(1, 2), (2, 4), (3, 6), (3, 8)} <= seen)
        four = Table([(1, 1, 1, 1)])
        self.assertEqual((ways_free(four, (0, 1, 2, 3)), len(plain_splits(four, (1,), (0, 1, 2, 3)))), (3, 6))
        self.assertEqual(ways_free(Table.zeros(0, 3), (0, 1, 2)), 3)
        self.assertEqual(ways_free(four, ()), 0)


class PiecesTest(unittest.TestCase):
    def check(self, table, x):
        pieces = lone_pieces(table, x)
        self.assertIs(type(pieces), tuple)
        self.assertEqual(list(pieces), sorted(pieces))
        self.assertTrue(beside_one_another(pieces))
        self.assertEqual(added(pieces, table.columns), tuple(x))
        self.assertTrue(all(is_plain_lone(table, piece) for piece in pieces))
        part = [j for j, a in enumerate(x) if a]
        even = even_rows_of(table, part)
        for i in range(table.height):
            filled = [piece for piece in pieces if plain_sums(table, piece)[i] != 0]
            self.assertEqual(len(filled), 0 if i in even else 1)
        self.assertEqual(lone_pieces(table, list(x)), pieces)
        return pieces

    def test_small_cases(self):
        self.assertEqual(lone_pieces(Table.zeros(0, 2), (1, -1)), ((0, -1), (1, 0)))
        self.assertEqual(lone_pieces(Table.zeros(3, 2), (0, 0)), ())
        self.assertEqual(lone_pieces(Table([(1, 1)]), (1, -1)), ((1, -1),))
        self.assertEqual(lone_pieces(Table([(1, 1)]), [-1, 1]), ((-1, 1),))

    def test_all_splits(self):
        for table in FIRM:
            for part in plain_parts(table.columns):
                for x in plain_splits(table, ones(table), part):
                    pieces = self.check(table, x)
                    if is_plain_lone(table, x):
                        self.assertEqual(pieces, (x,))
                    self.assertEqual(pieces == (), part == ())

    def test_wide_and_tall_tables(self):
        wide = Table([(1, 1, 1, 1, 1, 1, 1), (0, 0, 1, 1, 1, 0, 0)] + [(0,) * 7] * 10)
        for x in plain_splits(wide, ones(wide), tuple(range(7))):
            self.check(wide, x)

    def test_several_lists_of_pieces(self):
        table = Table([(1, 1, 1, 1)])
        lists = [pieces for pieces in selections([x for x in itertools.product((-1, 0, 1), repeat=4)
                                                  if is_plain_lone(table, x)])
                 if len(pieces) <= 2 and beside_one_another(pieces) and added(pieces, 4) == (1, 1, -1, -1)]
        self.assertEqual(len(lists), 2)
        self.assertIn(list(lone_pieces(table, (1, 1, -1, -1))), [sorted(pieces) for pieces in lists])

    def test_errors(self):
        wide = Table.zeros(1, 8)
        for wrong in WRONG_KINDS + (Numbers([0] * 8),):
            self.assertEqual(error_of(lone_pieces, wide, wrong), ("BadSigns", -1))
        for wrong in WRONG_INTEGERS + (2, -2):
            self.assertEqual(error_of(lone_pieces, wide, [1, wrong, None]), ("BadSigns", 1))
        self.assertEqual(error_of(lone_pieces, wide, (0,) * 7), ("OtherSize", 8))
        self.assertEqual(error_of(lone_pieces, wide, (0,) * 8), ("TooMany", 7))
        self.assertEqual(error_of(lone_pieces, UNFIRM, (0, 0)), ("NotFirm", (0, 1)))
        self.assertEqual(error_of(lone_pieces, UNFIRM, (1, 1)), ("NotFirm", (0, 1)))
        self.assertEqual(error_of(lone_pieces, Table([(1, 1)]), (1, 1)), ("NotFitting", "split"))
        self.assertEqual(error_of(lone_pieces, Table([(1, 1, 0), (0, 1, 1)]), (1, -1, -1)), ("NotFitting", "split"))


if __name__ == "__main__":
    unittest.main()
