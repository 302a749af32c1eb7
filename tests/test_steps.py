"""Steps and walks between firm roundings."""

import itertools
import unittest
from fractions import Fraction

from firmers import added, beside_one_another, firm_tables, is_plain_lone, ones, selections
from makers import WRONG_INTEGERS, WRONG_KINDS, error_of, plain_parts, plain_splits, plain_sums
from rounders import fractions_of, plain_firm, plain_miss, some_shares
from splitnumbers.numbers import Numbers
from splitnumbers.solving import solve
from splitnumbers.steps import difference_pieces, is_step, steps_of, walk
from splitnumbers.tables import Table

FIRM = list(firm_tables(36, 191, (0, 4), (1, 5)))
HALF = ((1, 2), (1, 2))
UNFIRM = Table([(1, 1), (1, -1)])


def cases(tables, seed, bottoms=(2, 3, 6)):
    for k, table in enumerate(tables):
        for bottom in bottoms:
            shares = some_shares(table.columns, seed + 5 * k + bottom, bottom)
            yield table, shares, plain_firm(table, ones(table), shares)
        yield table, [(1, 2)] * table.columns, plain_firm(table, ones(table), [(1, 2)] * table.columns)


def less(one, other):
    return tuple(b - a for a, b in zip(one, other))


class StepsTest(unittest.TestCase):
    def test_small_cases(self):
        table = Table.zeros(0, 2)
        steps = [((0, 0), (0, 1)), ((0, 0), (1, 0)), ((0, 1), (1, 1)), ((1, 0), (1, 1))]
        self.assertEqual(steps_of(table, HALF), steps)
        self.assertEqual(steps_of(table, Numbers([1, 1], 2)), steps)
        self.assertEqual(steps_of(Table([(1, 1)]), HALF), [((0, 1), (1, 0))])
        self.assertEqual(steps_of(table, (0, 1)), [])
        self.assertIs(is_step(table, (0, 0), [0, 1]), True)
        self.assertIs(is_step(table, (0, 1), (0, 0)), True)
        self.assertIs(is_step(table, (0, 0), (1, 1)), False)
        self.assertIs(is_step(table, (1, 0), (1, 0)), False)
        self.assertIs(is_step(Table([(1, 1)]), (0, 0), (1, 1)), False)
        self.assertIs(is_step(Table([(1, 1)]), (0, 1), (1, 0)), True)
        steps_of(table, HALF).clear()
        self.assertEqual(steps_of(table, HALF), steps)

    def test_all_steps(self):
        for table, shares, firm in cases(FIRM, 192):
            expected = [(z, y) for z, y in itertools.combinations(firm, 2) if is_plain_lone(table, less(z, y))]
            found = steps_of(table, shares)
            self.assertEqual(found, expected)
            self.assertEqual(found, sorted(found))

    def test_is_step_for_all_tuples(self):
        for table in FIRM[:25]:
            tuples = list(itertools.product((0, 1), repeat=table.columns))
            for z, y in itertools.product(tuples[::3], tuples):
                self.assertIs(is_step(table, z, y), is_plain_lone(table, less(z, y)))

    def test_steps_by_mixes(self):
        for table, shares, firm in cases(FIRM[:12], 193, (3,)):
            for z, y in itertools.combinations(firm[:8], 2):
                columns = [(1,) + x for x in firm]
                room = [1] + [Fraction(a + b, 2) for a, b in zip(z, y)]
                room = [(Fraction(a).numerator, Fraction(a).denominator) for a in room]
                others = [int(x not in (z, y)) for x in firm]
                word, total, _, _ = solve(columns, room, others)
                self.assertEqual(word, "best")
                self.assertEqual(total == (0, 1), is_step(table, z, y))

    def test_firm_roundings_and_their_mixes(self):
        for table, shares, firm in cases(FIRM, 194):
            self.assertTrue(firm)
            columns = [(1,) + z for z in firm]
            self.assertEqual(solve(columns, [1] + list(shares), (0,) * len(firm))[0], "best")
            whole = [sum(a * b for a, b in zip(row, fractions_of(shares))).denominator == 1 if any(row) else True
                     for row in table.rows]
            for z in firm:
                self.assertTrue(all(a == 0 for a, kept in zip(plain_miss(table, shares, z), whole) if kept))

    def test_step_errors(self):
        wide = Table.zeros(1, 8)
        for wrong in WRONG_KINDS + (Numbers([0] * 8),):
            self.assertEqual(error_of(is_step, wide, wrong, None), ("BadRounding", -1))
            self.assertEqual(error_of(is_step, wide, (0,) * 8, wrong), ("BadRounding", -1))
        for wrong in WRONG_KINDS:
            self.assertEqual(error_of(steps_of, wide, wrong), ("BadShares", -1))
        for wrong in WRONG_INTEGERS + (2, -1):
            self.assertEqual(error_of(is_step, wide, [1, wrong, None], None), ("BadRounding", 1))
            self.assertEqual(error_of(is_step, wide, (0,) * 8, [1, wrong, None]), ("BadRounding", 1))
        self.assertEqual(error_of(is_step, wide, (0,) * 7, None), ("OtherSize", 8))
        self.assertEqual(error_of(is_step, wide, (0,) * 8, [0] * 9), ("OtherSize", 8))
        self.assertEqual(error_of(is_step, wide, (0,) * 8, (1,) * 8), ("TooMany", 7))
        self.assertEqual(error_of(is_step, UNFIRM, (0, 0), (0, 0)), ("NotFirm", (0, 1)))
        self.assertEqual(error_of(steps_of, wide, [0, (4, 3)]), ("BadShares", 1))
        self.assertEqual(error_of(steps_of, wide, [0] * 7), ("OtherSize", 8))
        self.assertEqual(error_of(steps_of, wide, [(1, 2)] * 8), ("TooMany", 7))
        self.assertEqual(error_of(steps_of, UNFIRM, (0, 0)), ("NotFirm", (0, 1)))


class WalksTest(unittest.TestCase):
    def test_small_cases(self):
        table = Table.zeros(0, 2)
        self.assertEqual(walk(table, HALF, (0, 0), [1, 1]), [(0, 0), (0, 1), (1, 1)])
        self.assertEqual(walk(table, HALF, [1, 1], (0, 0)), [(1, 1), (0, 1), (0, 0)])
        self.assertEqual(walk(table, HALF, [1, 0], (1, 0)), [(1, 0)])
        self.assertEqual(difference_pieces(table, HALF, [1, 0], (1, 0)), ())
        self.assertEqual(difference_pieces(table, HALF, [1, 0], (0, 1)), ((-1, 0), (0, 1)))
        self.assertEqual(difference_pieces(Table([(1, 1)]), HALF, [1, 0], (0, 1)), ((-1, 1),))

    def test_differences_and_walks(self):
        for table, shares, firm in cases(FIRM, 195):
            for z, y in itertools.product(firm[:6], firm[-6:]):
                pieces = difference_pieces(table, shares, z, y)
                self.assertIs(type(pieces), tuple)
                self.assertEqual(list(pieces), sorted(pieces))
                self.check_pieces(table, pieces, less(z, y))
                for chosen in selections(pieces):
                    self.assertIn(tuple(a + b for a, b in zip(z, added(chosen, table.columns))), firm)
                way = walk(table, shares, z, y)
                self.assertIs(type(way), list)
                self.assertEqual((way[0], way[-1], len(way)), (z, y, len(pieces) + 1))
                self.assertEqual([less(a, b) for a, b in zip(way, way[1:])], list(pieces))
                self.assertTrue(all(is_step(table, a, b) for a, b in zip(way, way[1:])))
                self.assertEqual(difference_pieces(table, shares, list(z), list(y)), pieces)

    def check_pieces(self, table, pieces, d):
        self.assertTrue(all(is_plain_lone(table, piece) for piece in pieces))
        self.assertTrue(beside_one_another(pieces))
        self.assertEqual(added(pieces, table.columns), d)
        for i in range(table.height):
            self.assertTrue(sum(1 for piece in pieces if plain_sums(table, piece)[i]) <= 1)

    def test_splits_of_one_part(self):
        # The splits of a part are the firm roundings of shares 1/2 on the part, doubled.
        for table in FIRM[:25]:
            for part in plain_parts(table.columns)[1:]:
                shares = [(int(j in part), 2) for j in range(table.columns)]
                splits = plain_splits(table, ones(table), part)
                for x, y in itertools.product(splits[:3], splits[-3:]):
                    z, w = [tuple((a + 1) // 2 if j in part else 0 for j, a in enumerate(s)) for s in (x, y)]
                    pieces = difference_pieces(table, shares, z, w)
                    self.assertEqual(added(pieces, table.columns), tuple(a // 2 for a in less(x, y)))
                    for chosen in selections(pieces):
                        twice = [2 * a for a in added(chosen, table.columns)]
                        self.assertIn(tuple(a + b for a, b in zip(x, twice)), splits)

    def test_seven_columns_and_twelve_rows(self):
        table = Table.zeros(12, 7)
        half = [(1, 2)] * 7
        self.assertEqual(len(walk(table, half, (0,) * 7, (1,) * 7)), 8)
        self.assertEqual(len(steps_of(table, half)), 7 * 64)

    def test_walk_errors(self):
        wide = Table.zeros(1, 8)
        zeros = (0,) * 8
        for call in (difference_pieces, walk):
            for wrong in WRONG_KINDS:
                self.assertEqual(error_of(call, wide, wrong, None, None), ("BadShares", -1))
                self.assertEqual(error_of(call, wide, zeros, wrong, None), ("BadRounding", -1))
                self.assertEqual(error_of(call, wide, zeros, zeros, wrong), ("BadRounding", -1))
            self.assertEqual(error_of(call, wide, [0, (4, 3)], None, None), ("BadShares", 1))
            self.assertEqual(error_of(call, wide, [0] * 7, None, None), ("OtherSize", 8))
            self.assertEqual(error_of(call, wide, zeros, (0,) * 7, None), ("BadRounding", -1))
            self.assertEqual(error_of(call, wide, zeros, (0, 1, 2) + (0,) * 5, None), ("BadRounding", 1))
            self.assertEqual(error_of(call, wide, zeros, zeros, (0, 0, True) + (0,) * 5), ("BadRounding", 2))
            self.assertEqual(error_of(call, wide, zeros, zeros, zeros), ("TooMany", 7))
            self.assertEqual(error_of(call, UNFIRM, HALF, (0, 0), (0, 0)), ("NotFirm", (0, 1)))
            row = Table([(1, 1)])
            self.assertEqual(error_of(call, row, HALF, (0, 0), (1, 1)), ("NotFitting", "one"))
            self.assertEqual(error_of(call, row, HALF, (0, 1), (1, 1)), ("NotFitting", "other"))
            self.assertIsNone(error_of(call, row, HALF, (0, 1), (1, 0)))


if __name__ == "__main__":
    unittest.main()
