"""The blocks of tables, against all circuits."""

import itertools
import unittest
from fractions import Fraction

from firmers import plain_lones, plain_squares
from makers import (WRONG_INTEGERS, WRONG_KINDS, all_tables, all_tolls, error_of, plain_failing, serving_tolls,
                    some_tables)
from rounders import fractions_of, plain_miss, plain_within, told
from rowmakers import all_of, dot
from splitnumbers.blocks import block_loose, blocks_of, failing_block, is_one_block
from splitnumbers.joining import at_column, at_row, blocks_table
from splitnumbers.numbers import Numbers
from splitnumbers.solving import solve
from splitnumbers.tables import Table
from splitnumbers.tolls import serves


def circuits(table):
    """The lines of all circuits, each as a set of (row, column)."""
    near = {}
    for i, row in enumerate(table.rows):
        for j, number in enumerate(row):
            if number:
                near.setdefault(("row", i), []).append(("column", j))
                near.setdefault(("column", j), []).append(("row", i))
    found = []

    def walk(way):
        for point in near[way[-1]]:
            if point == way[0] and len(way) >= 4:
                found.append({tuple(sorted(pair, reverse=True)) for pair in zip(way, way[1:] + way[:1])})
            elif point not in way:
                walk(way + [point])

    for point in near:
        walk([point])
    return [{(row[1], column[1]) for row, column in circuit} for circuit in found]


def plain_blocks(table):
    lines = [(i, j) for i, row in enumerate(table.rows) for j, number in enumerate(row) if number]
    classes = [{line} for line in lines]
    for circuit in circuits(table):
        touched = [one for one in classes if one & circuit]
        classes = [one for one in classes if not one & circuit] + [set().union(*touched)]
    return sorted((tuple(sorted({i for i, _ in one})), tuple(sorted({j for _, j in one}))) for one in classes)


def many_tables():
    yield from all_tables(2, 3, (0, 1))
    yield from all_tables(3, 3, (0, -2))
    for k, table in enumerate(some_tables(200, 361, (0, 4), (1, 4))):
        # Half of the numbers are made 0, so that there are several blocks.
        yield Table([[a if (i * 7 + j * 3 + k) % 5 < 3 else 0 for j, a in enumerate(row)]
                     for i, row in enumerate(table.rows)], columns=table.columns)


class BlocksTest(unittest.TestCase):
    def test_small_cases(self):
        self.assertEqual(blocks_of(Table([(1, 2), (3, 4)])), [((0, 1), (0, 1))])
        self.assertEqual(blocks_of(Table([(1, 2), (3, 0)])), [((0,), (0,)), ((0,), (1,)), ((1,), (0,))])
        self.assertEqual(blocks_of(Table([(1, 1, 0), (1, 1, 1), (0, 0, 5)])),
                         [((0, 1), (0, 1)), ((1,), (2,)), ((2,), (2,))])
        self.assertEqual(blocks_of(Table([(-7,)])), [((0,), (0,))])
        for table in (Table.zeros(0, 3), Table.zeros(3, 2), Table.zeros(12, 12)):
            self.assertEqual(blocks_of(table), [])
        self.assertEqual(blocks_of(Table.unit(12)), [((i,), (i,)) for i in range(12)])
        self.assertEqual(blocks_of(Table([[1] * 12] * 12)), [(tuple(range(12)), tuple(range(12)))])
        chain = Table.chain(12)
        self.assertEqual(len(blocks_of(chain)), 22)
        ring = chain.with_row((1,) + (0,) * 10 + (-1,))
        self.assertEqual(blocks_of(ring), [(tuple(range(12)), tuple(range(12)))])
        # Two blocks with a common row, two with a common column.
        two = Table([(1, 1, 1, 1), (1, 1, 0, 0), (0, 0, 1, 1)])
        self.assertEqual(blocks_of(two), [((0, 1), (0, 1)), ((0, 2), (2, 3))])
        self.assertEqual(blocks_of(~two), [((0, 1), (0, 1)), ((2, 3), (0, 2))])
        blocks_of(two).clear()
        self.assertEqual(len(blocks_of(two)), 2)

    def test_against_circuits(self):
        counts = set()
        for table in many_tables():
            blocks = blocks_of(table)
            counts.add(len(blocks))
            self.assertEqual(blocks, plain_blocks(table))
            self.assertIs(is_one_block(table), blocks == [(tuple(range(table.height)), tuple(range(table.columns)))])
            for (rows, columns), (more, others) in itertools.combinations(blocks, 2):
                self.assertTrue(len(set(rows) & set(more)) + len(set(columns) & set(others)) <= 1)
            for i, row in enumerate(table.rows):
                for j, number in enumerate(row):
                    at = sum(1 for rows, columns in blocks if i in rows and j in columns)
                    self.assertTrue(at == 1 if number else at <= 1)
        self.assertTrue({0, 1, 2, 3, 4, 5} <= counts)

    def test_joined_tables(self):
        square = Table([(1, 2), (3, 4)])
        for i, k in itertools.product(range(2), repeat=2):
            for joined in (at_row(square, i, square, k), at_column(square, i, square, k), blocks_table(square, square)):
                self.assertEqual(len(blocks_of(joined)), 2)
                self.assertFalse(is_one_block(joined))

    def test_one_block(self):
        self.assertIs(is_one_block(Table([(1, 2), (3, 4)])), True)
        self.assertIs(is_one_block(Table([(5,)])), True)
        self.assertIs(is_one_block(Table([(5, 0)])), False)
        self.assertIs(is_one_block(Table([(5,), (0,)])), False)
        self.assertIs(is_one_block(Table([(1, 1), (1, 0)])), False)
        self.assertIs(is_one_block(Table.zeros(0, 1)), False)
        self.assertIs(is_one_block(Table.zeros(1, 1)), False)
        self.assertIs(is_one_block(Table.unit(2)), False)


class FailingBlockTest(unittest.TestCase):
    def test_small_cases(self):
        two = Table([(1, 1, 1, 1), (1, -1, 0, 0), (0, 0, 1, -1)])
        self.assertEqual(failing_block(two, (1, 1, 1)), ((0, 1), (0, 1)))
        self.assertEqual(failing_block(two, [1, 2, 1]), ((0, 2), (2, 3)))
        self.assertIsNone(failing_block(two, (1, 2, 2)))
        self.assertIsNone(failing_block(Table.zeros(2, 12), (0, 0)))
        self.assertIsNone(failing_block(Table.zeros(0, 9), ()))
        self.assertEqual(failing_block(Table([(10 ** 30,)]), (10 ** 30 - 1,)), ((0,), (0,)))
        self.assertEqual(failing_block(Table.unit(12), (1,) * 11 + (0,)), ((11,), (11,)))
        self.assertEqual(block_loose(two, (2, 1, 5)), (1, 2))
        self.assertEqual(block_loose(two, [0, 1, 1]), (0, 0))
        self.assertEqual(block_loose(Table.zeros(2, 2), (5, 5)), ())
        self.assertEqual(block_loose(Table([[1] * 12] * 12), (2,) * 12), (12,))

    def test_tolls_serve_exactly_if_they_serve_the_blocks(self):
        for table in list(many_tables())[::3]:
            for tolls in itertools.islice(all_tolls(table.height, 3), 0, None, 3):
                blocks = blocks_of(table)
                failing = [block for block in blocks
                           if plain_failing(table.lot(*block), [tolls[i] for i in block[0]])]
                self.assertEqual(failing_block(table, tolls), failing[0] if failing else None)
                self.assertEqual(serves(table, tolls), not failing)
                self.assertEqual(block_loose(table, tolls),
                                 tuple(len([i for i in rows if tolls[i] > 1]) for rows, _ in blocks))

    def test_determinants(self):
        looked_at = 0
        for table in many_tables():
            tolls = serving_tolls(table, 1)
            if max(block_loose(table, tolls), default=0) <= 2:
                looked_at += sum(1 for q in tolls if q > 1) > 2
                for rows, _, number in plain_squares(table):
                    product = 1
                    for i in rows:
                        product *= tolls[i]
                    self.assertLessEqual(abs(number), product)
        self.assertTrue(looked_at > 5, looked_at)

    def test_errors(self):
        table = Table([(1,) * 8, (0,) * 8])
        for call in (failing_block, block_loose):
            for wrong in WRONG_KINDS:
                self.assertEqual(error_of(call, table, wrong), ("BadTolls", -1))
            for wrong in WRONG_INTEGERS + (-1,):
                self.assertEqual(error_of(call, table, (1, wrong, None)), ("BadTolls", 1))
            for tolls in ((), (1,), [1] * 3):
                self.assertEqual(error_of(call, table, tolls), ("OtherSize", 2))
        # Many blocks of one number each are no hindrance; a block of 8 columns is too much, whatever the tolls.
        self.assertIsNone(failing_block(table, (1, 1)))
        self.assertEqual(failing_block(table.with_row((1, -1) + (0,) * 6), (1, 1, 1)), ((0, 2), (0, 1)))
        big = Table([(1,) * 8, (1,) * 8])
        for tolls in ((0, 0), (9, 9)):
            self.assertEqual(error_of(failing_block, big, tolls), ("TooMany", 7))
        self.assertEqual(error_of(failing_block, blocks_table(Table([(5,)]), big), (0, 9, 9)), ("TooMany", 7))
        self.assertIsNone(failing_block(Table([(1,) * 7, (1,) * 7]), (1, 1)))
        self.assertEqual(block_loose(big, (2, 1)), (1,))


class MixesByBlocksTest(unittest.TestCase):
    def has_mix(self, table, tolls, shares):
        near = plain_within(table, tolls, shares)
        room = Numbers.of_ratios((1,) + tuple(shares))
        return near != [] and solve([(1,) + z for z in near], room, [0] * len(near))[0] == "best"

    def without_mix(self, table, tolls):
        """Shares as the document tells them for tolls that do not serve."""
        for rows, columns in blocks_of(table):
            lot = table.lot(rows, columns)
            firm = [k for k, i in enumerate(rows) if tolls[i] == 1]
            failing = plain_failing(lot.lot(firm, list(range(lot.columns))), [1] * len(firm))
            if failing:
                return [(1, 2) if j in [columns[k] for k in failing[0]] else 0 for j in range(table.columns)]
        for rows, columns in blocks_of(table):
            lot = table.lot(rows, columns)
            firm = [k for k, i in enumerate(rows) if tolls[i] == 1]
            for k, i in enumerate(rows):
                for d in plain_lones(lot.lot(firm, list(range(lot.columns)))):
                    worth = abs(dot(lot[k], d))
                    if tolls[i] > 1 and worth > tolls[i]:
                        share = {columns[j]: (a == -1) + Fraction(tolls[i], worth) * a for j, a in enumerate(d)}
                        return [told(share.get(j, Fraction(0))) for j in range(table.columns)]
        self.fail((table.rows, tolls))

    def test_mixes(self):
        seen = {True: 0, False: 0}
        for table in list(many_tables())[::2]:
            for tolls in itertools.islice(itertools.product((1, 2, 3), repeat=table.height), 0, None, 2):
                if max(block_loose(table, tolls), default=0) > 1:
                    continue
                serving = serves(table, tolls)
                seen[serving] += 1
                if serving:
                    for shares in all_of(table.columns, ((1, 2), (1, 3))):
                        self.assertTrue(self.has_mix(table, tolls, shares))
                else:
                    self.assertFalse(self.has_mix(table, tolls, self.without_mix(table, tolls)))
        self.assertTrue(min(seen.values()) > 100, seen)

    def test_single_roundings_may_miss_more(self):
        table = Table([(2, 0), (0, 2), (2, 2)])
        self.assertTrue(serves(table, (2, 2, 2)))
        self.assertFalse(max(block_loose(table, (2, 2, 2))) > 1)
        shares = fractions_of([(1, 3), (1, 3)])
        for z in all_of(2, (0, 1)):
            self.assertGreaterEqual(max(map(abs, plain_miss(table, shares, z))), Fraction(4, 3))
        self.assertTrue(self.has_mix(table, (2, 2, 2), [(1, 3), (1, 3)]))


if __name__ == "__main__":
    unittest.main()
