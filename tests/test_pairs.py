"""Pairs of lone splits, and parts that fall apart."""

import itertools
import unittest

from callers import check_calls
from firmers import added, beside_one_another, firm_tables, negative, ones, plain_lones
from makers import plain_parts, plain_splits, plain_sums
from splitnumbers.lonesums import ways_free
from splitnumbers.pairs import is_pair, pairs_of
from splitnumbers.tables import Table

FIRM = list(firm_tables(50, 201, (0, 4), (1, 5)))


def first_column(x):
    return next(j for j, a in enumerate(x) if a)


def part_of_both(u, v):
    return tuple(j for j, (a, b) in enumerate(zip(u, v)) if a or b)


def plain_pairs(table):
    """By the definition: lone splits beside one another whose part has four splits, made of them."""
    found = []
    for u, v in itertools.permutations(plain_lones(table), 2):
        if beside_one_another([u, v]) and first_column(u) < first_column(v):
            four = {added([a, b], table.columns) for a in (u, negative(u)) for b in (v, negative(v))}
            if set(plain_splits(table, ones(table), part_of_both(u, v))) == four:
                found.append((u, v))
    return sorted(found)


class PairsTest(unittest.TestCase):
    def test_small_cases(self):
        pairs = [((0, 1, 0), (0, 0, 1)), ((1, -1, 0), (0, 0, 1)), ((1, 0, 0), (0, 0, 1))]
        self.assertEqual(pairs_of(Table([(1, 1, 0)])), pairs)
        self.assertEqual(pairs_of(Table.zeros(0, 1)), [])
        self.assertEqual(pairs_of(Table.zeros(0, 2)), [((1, 0), (0, 1))])
        self.assertEqual(pairs_of(Table.zeros(12, 2)), [((1, 0), (0, 1))])
        self.assertEqual(len(pairs_of(Table.zeros(0, 7))), 21)
        pairs_of(Table([(1, 1, 0)])).clear()
        self.assertEqual(pairs_of(Table([(1, 1, 0)])), pairs)

    def test_is_pair(self):
        table = Table([(1, 1, 0)])
        self.assertIs(is_pair(table, (1, -1, 0), [0, 0, 1]), True)
        self.assertIs(is_pair(table, (0, 0, 1), (1, -1, 0)), True)
        for one, other in (((1, 0, 0), (0, 1, 0)), ((-1, 1, 0), (0, 0, 1)), ((1, -1, 0), (0, 0, -1)),
                           ((0, 0, 0), (0, 0, 1)), ((0, 0, 1), (0, 0, 1)), ((1, 0, 0), (1, -1, 0))):
            self.assertIs(is_pair(table, one, other), False)
        for table in FIRM[:25]:
            pairs = plain_pairs(table)
            for u, v in itertools.product(plain_lones(table), repeat=2):
                self.assertIs(is_pair(table, u, v), (u, v) in pairs or (v, u) in pairs)
                self.assertIs(is_pair(table, u, negative(v)), False)

    def test_against_the_definition(self):
        some = 0
        for table in FIRM:
            pairs = plain_pairs(table)
            some += len(pairs)
            self.assertEqual(pairs_of(table), pairs)
            parts = [part_of_both(u, v) for u, v in pairs]
            self.assertEqual(len(parts), len(set(parts)))
            for part in plain_parts(table.columns):
                self.assertEqual(part in parts, ways_free(table, part) == 2)
                self.assertEqual(part in parts, len(plain_splits(table, ones(table), part)) == 4)
            for u, v in pairs:
                self.assertFalse(any(a and b for a, b in zip(plain_sums(table, u), plain_sums(table, v))))
        self.assertTrue(some > 200)

    def test_other_lone_parts_are_no_pair(self):
        table = Table([(1, 1, 0)])
        self.assertEqual(plain_lones(table), [(0, 0, 1), (0, 1, 0), (1, -1, 0), (1, 0, 0)])
        self.assertFalse(is_pair(table, (1, 0, 0), (0, 1, 0)))
        # The part of all columns is that of a pair, and it falls into three single columns, too.
        self.assertEqual(ways_free(table, (0, 1, 2)), 2)

    def test_errors(self):
        check_calls(self, lambda table: pairs_of(table), ())
        check_calls(self, is_pair, ("signs", "signs"))


class FallingApartTest(unittest.TestCase):
    def test_parts_with_all_splits(self):
        seen = {True: 0, False: 0}
        for table in FIRM[:35]:
            lones = plain_lones(table)
            for part in plain_parts(table.columns)[1:]:
                f = ways_free(table, part)
                splits = plain_splits(table, ones(table), part)
                within = [x for x in lones if all(j in part for j, a in enumerate(x) if a)]
                apart = any(self.falls_into(chosen, part, splits) for chosen in itertools.combinations(within, f))
                seen[apart] += 1
                self.assertEqual(len(splits) == 2 ** f, apart)
        self.assertTrue(seen[False] > 5 and seen[True] > 100)

    def falls_into(self, chosen, part, splits):
        if not beside_one_another(chosen) or sum(sum(map(abs, x)) for x in chosen) != len(part):
            return False
        choices = itertools.product(*[(x, negative(x)) for x in chosen])
        return all(added(choice, len(splits[0])) in splits for choice in choices)


if __name__ == "__main__":
    unittest.main()
