"""Tolls of rows below firm tables that are known as stretches alone, against all worlds."""

import itertools
import unittest
from fractions import Fraction

from callers import UNFIRM, check_calls
from firmers import firm_tables, negative, ones, plain_lones
from makers import error_of, long_numbers, plain_failing, plain_parts, plain_splits, some_numbers
from rounders import told
from rowmakers import dot, worth
from splitnumbers.lonetolls import lone_toll
from splitnumbers.mixes import Mix
from splitnumbers.numbers import Numbers
from splitnumbers.pairtolls import above_lones, second_toll
from splitnumbers.solving import solve
from splitnumbers.stretches import Stretches
from splitnumbers.tables import Table
from splitnumbers.worlds import greatest_second, greatest_toll, least_toll_ratio, safe_split, serves_all, world_with
from test_stretches import plain_worlds, some_stretches

FIRM = list(firm_tables(24, 451, (0, 3), (1, 4)))
FREE = Table.zeros(0, 2)
KNOWN = Stretches([(1, 3), (-2, 0)])


def cases(seed, tables=FIRM, longest=2):
    """Tables with stretches of their columns, as pairs."""
    for k, table in enumerate(tables):
        n = table.columns
        yield table, list(some_stretches(1, seed + k * k, (n, n), longest))[0]


def both_signs(table):
    return sorted(list(plain_lones(table)) + [negative(d) for d in plain_lones(table)])


class GreatestTollTest(unittest.TestCase):
    def test_small_cases(self):
        self.assertEqual(greatest_toll(FREE, KNOWN), (3, (3, -2)))
        self.assertEqual(greatest_toll(FREE, Stretches([(0, 0), (0, 0)])), (0, (0, 0)))
        self.assertEqual(greatest_toll(FREE, Stretches([(-3, 1), (-3, 3)])), (3, (-3, -3)))
        self.assertEqual(greatest_toll(Table([(1, 1)]), KNOWN), (5, (3, -2)))
        # One stretch is 10 ** 9 long.
        self.assertEqual(greatest_toll(FREE, Stretches([(-10 ** 9, 5), (0, 1)])), (10 ** 9, (-10 ** 9, 0)))
        self.assertEqual(greatest_toll(Table.zeros(12, 1), Stretches([(-7, 7)])), (7, (-7,)))
        self.assertEqual(greatest_toll(Table.zeros(0, 7), Stretches([(k, k) for k in range(7)])), (6, tuple(range(7))))

    def test_against_all_worlds(self):
        for table, pairs in cases(452):
            known = Stretches(pairs)
            tolls = [lone_toll(table, world) for world in plain_worlds(pairs)]
            toll, world = greatest_toll(table, known)
            self.assertEqual(toll, max(tolls))
            self.assertEqual(lone_toll(table, world), toll)
            first = [d for d in both_signs(table) if known.reach(d)[1] == toll][0]
            self.assertEqual(world, known.end_world(first))
            self.assertEqual(max(known.reach(d)[1] for d in both_signs(table)), toll)
            for h in range(toll + 2):
                self.assertIs(serves_all(table, known, h), h >= toll)

    def test_serves_all_against_tables(self):
        for table, pairs in cases(453, FIRM[:10]):
            for h in range(1, 8):
                each = all(not plain_failing(table.with_row(world), ones(table) + (h,)) for world in plain_worlds(pairs))
                self.assertEqual(serves_all(table, Stretches(pairs), h), each)

    def test_end_worlds_have_their_own_greatest_tolls(self):
        for table, pairs in cases(454):
            known = Stretches(pairs)
            toll = greatest_toll(table, known)[0]
            for d in both_signs(table):
                if known.reach(d)[1] == toll:
                    self.assertEqual(lone_toll(table, known.end_world(d)), toll)

    def test_errors(self):
        check_calls(self, greatest_toll, ("stretches",))
        check_calls(self, serves_all, ("stretches", "toll"))


class WorldWithTest(unittest.TestCase):
    def test_small_cases(self):
        self.assertEqual(world_with(FREE, KNOWN, 1), (1, -1))
        self.assertEqual(world_with(FREE, KNOWN, 2), (1, -2))
        self.assertEqual(world_with(FREE, KNOWN, 3), (3, -2))
        self.assertIsNone(world_with(FREE, KNOWN, 0))
        self.assertIsNone(world_with(FREE, KNOWN, 4))
        self.assertEqual(world_with(FREE, Stretches([(0, 0), (0, 0)]), 0), (0, 0))
        self.assertEqual(world_with(Table.zeros(12, 1), Stretches([(1, 200)]), 200), (200,))

    def test_against_all_worlds(self):
        for table, pairs in cases(455):
            known = Stretches(pairs)
            worlds = plain_worlds(pairs)
            if len(worlds) > 200:
                continue
            tolls = [lone_toll(table, world) for world in worlds]
            for h in range(max(tolls) + 2):
                first = [world for world, toll in zip(worlds, tolls) if toll == h]
                self.assertEqual(world_with(table, known, h), first[0] if first else None)
                self.assertEqual(bool(first), min(tolls) <= h <= max(tolls))

    def test_changes_by_one(self):
        for table, pairs in cases(456, longest=1):
            for world in plain_worlds(pairs)[:20]:
                for j, t in itertools.product(range(table.columns), (-3, -1, 1, 2)):
                    other = world[:j] + (world[j] + t,) + world[j + 1:]
                    self.assertLessEqual(abs(lone_toll(table, other) - lone_toll(table, world)), abs(t))

    def test_errors(self):
        check_calls(self, world_with, ("stretches", "toll"))
        many = Stretches([(0, 200), (0, 0)])
        self.assertEqual(error_of(world_with, UNFIRM, many, 0), ("TooMany", 200))
        self.assertEqual(error_of(world_with, UNFIRM, Stretches([(0, 199), (0, 0)]), 0), ("NotFirm", (0, 1)))
        self.assertEqual(error_of(world_with, Table.zeros(1, 8), Stretches([(0, 200)] * 8), 0), ("TooMany", 7))
        self.assertEqual(error_of(world_with, Table([(2,) * 7]), Stretches([(0, 9)] * 7), -1), ("BadNumber", "toll"))
        self.assertIsNone(world_with(FREE, Stretches([(0, 199), (0, 0)]), 200))


class LeastRatioTest(unittest.TestCase):
    def check(self, table, pairs):
        known = Stretches(pairs)
        ratio, world, mix = least_toll_ratio(table, known)
        value = Fraction(*ratio)
        self.assertEqual(ratio, told(value))
        self.assertGreaterEqual(value, 0)
        self.assertIs(type(world), Numbers)
        self.assertIs(type(mix), Mix)
        self.assertTrue(known.agrees(world))
        numbers = [Fraction(*number) for number in world]
        lones = plain_lones(table)
        self.assertEqual(max(worth(numbers, d) for d in lones), value)
        signs = both_signs(table)
        self.assertTrue(all(d in signs for d, _ in mix))
        least = Fraction(0)
        for g, (low, high) in zip([Fraction(*mean) for mean in mix.means()], pairs):
            least += g * (low if g >= 0 else high)
        self.assertEqual(least, value)
        again = least_toll_ratio(table, known)
        self.assertTrue(again[0] == ratio and again[1] == world and again[2] == mix)
        return value

    def test_small_cases(self):
        self.assertEqual(self.check(FREE, [(1, 3), (-2, 0)]), 1)
        self.assertEqual(self.check(FREE, [(-1, 3), (-2, 0)]), 0)
        self.assertEqual(self.check(FREE, [(0, 0), (0, 0)]), 0)
        self.assertEqual(self.check(FREE, [(-5, -2), (3, 9)]), 3)
        self.assertEqual(self.check(Table([(1, 1)]), [(0, 9), (5, 9)]), 5)
        self.assertEqual(self.check(Table([(1, 1)]), [(-9, 0), (1, 1)]), 1)
        self.check(Table.zeros(0, 7), [(-10 ** 30, -10 ** 29), (10 ** 28, 10 ** 30)] + [(0, 10 ** 9)] * 5)

    def test_many_tables(self):
        for table, pairs in list(cases(457)) + list(cases(458, longest=0)) + list(cases(459, longest=4)):
            value = self.check(table, pairs)
            tolls = [lone_toll(table, world) for world in plain_worlds(pairs)]
            self.assertLessEqual(value, min(tolls))
        for table in firm_tables(6, 460, (1, 3), (5, 7)):
            self.check(table, [tuple(sorted(pair)) for pair in zip(long_numbers(table.columns, 1), long_numbers(table.columns, 2))])

    def test_less_than_the_least_toll_of_a_world(self):
        table = Table([(-1, 0, -1, 0, 0), (0, 0, -1, 0, -1), (0, -1, 1, 1, 0)])
        pairs = [(2, 2), (3, 3), (-1, 7), (-1, 0), (4, 5)]
        self.assertEqual(self.check(table, pairs), Fraction(9, 2))
        self.assertEqual(min(lone_toll(table, world) for world in plain_worlds(pairs)), 5)
        self.assertIsNone(world_with(table, Stretches(pairs), 4))
        table = Table([(1, -1, 0, 1, 0, 0), (0, 1, 1, 0, 1, 0), (0, 1, 0, 0, 0, 1)])
        self.assertEqual(self.check(table, [(3, 5), (-3, 5), (0, 0), (-2, 6), (-4, -4), (2, 10)]), Fraction(9, 2))
        table = Table([(0, 0, 0, 0, 0, 1, 1), (1, 1, -1, 0, 1, 0, 1), (1, 1, -1, -1, 1, 0, 0), (-1, 0, 0, 0, 0, 1, 0),
                       (1, 0, 0, -1, 0, 0, 0)])
        pairs = [(-3, 5), (-1, 1), (-4, -3), (2, 3), (-2, -1), (4, 4), (-1, 7)]
        self.assertEqual(self.check(table, pairs), Fraction(16, 3))

    def test_against_prices_of_all_worlds(self):
        # The same by the other side: the least bound of all worths, over numbers from low to high.
        for table, pairs in cases(461):
            value = self.check(table, pairs)
            lones = both_signs(table)
            # Numbers are told as low + x; the bound h, x and what is spare are at least 0.
            columns = [[1] * len(lones) + [0] * len(pairs)]
            for j in range(len(pairs)):
                columns.append([-d[j] for d in lones] + [int(k == j) for k in range(len(pairs))])
            for i in range(len(lones)):
                columns.append([-int(k == i) for k in range(len(lones))] + [0] * len(pairs))
            for j in range(len(pairs)):
                columns.append([0] * len(lones) + [int(k == j) for k in range(len(pairs))])
            room = [dot([low for low, _ in pairs], d) for d in lones] + [high - low for low, high in pairs]
            total = solve(columns, room, [-1] + [0] * (len(columns) - 1))[1]
            self.assertEqual(value, -Fraction(*total))

    def test_errors(self):
        check_calls(self, least_toll_ratio, ("stretches",))


class SafeTest(unittest.TestCase):
    def test_small_cases(self):
        known = Stretches([(1, 1), (-1, 1)])
        self.assertIs(serves_all(FREE, known, 1), True)
        self.assertIsNone(safe_split(FREE, known, 1, (0, 1)))
        self.assertEqual(safe_split(FREE, known, 2, (0, 1)), (-1, -1))
        self.assertEqual(safe_split(FREE, known, 2, [1, 0]), (-1, -1))
        self.assertEqual(safe_split(FREE, known, 0, ()), (0, 0))
        self.assertIsNone(safe_split(FREE, known, 0, (0,)))
        self.assertEqual(safe_split(FREE, Stretches([(0, 0), (5, 9)]), 0, (0,)), (-1, 0))

    def test_against_all_worlds(self):
        seen = {True: 0, False: 0}
        for table, pairs in cases(462):
            worlds = plain_worlds(pairs)
            known = Stretches(pairs)
            for h in range(8):
                every = True
                for part in plain_parts(table.columns):
                    splits = plain_splits(table, ones(table), part)
                    safe = [x for x in splits if all(worth(world, x) <= h for world in worlds)]
                    self.assertEqual(safe, [x for x in splits if -h <= known.reach(x)[0] and known.reach(x)[1] <= h])
                    self.assertEqual(safe_split(table, known, h, part), safe[0] if safe else None)
                    seen[bool(safe)] += 1
                    every = every and bool(safe)
                if every:
                    self.assertGreaterEqual(h, greatest_toll(table, known)[0])
        self.assertTrue(min(seen.values()) > 100, seen)

    def test_errors(self):
        check_calls(self, safe_split, ("stretches", "toll", "part"))


class GreatestSecondTest(unittest.TestCase):
    def test_small_cases(self):
        known = Stretches([(1, 3), (-3, -3)])
        self.assertEqual(greatest_second(FREE, (3, 3), 3, known), 6)
        self.assertEqual(greatest_second(FREE, [3, 3], 6, known), 3)
        self.assertEqual(greatest_second(FREE, Numbers([0, 0]), 1, Stretches([(0, 0), (0, 0)])), 0)
        self.assertEqual(greatest_second(Table.zeros(12, 1), (2,), 2, Stretches([(-8, 1)])), 8)

    def test_against_all_worlds(self):
        for k, (table, pairs) in enumerate(cases(463, longest=1)):
            one = tuple(some_numbers(table.columns, 464 + 31 * k * k, -3, 3))
            low = max(1, lone_toll(table, one))
            for first in range(low, 2 * low + 2):
                greatest = greatest_second(table, one, first, Stretches(pairs))
                self.assertEqual(greatest, max(second_toll(table, one, first, world) for world in plain_worlds(pairs)))
                reaches = [Stretches(pairs).reach(x) for x in above_lones(table, one, first)]
                self.assertEqual(greatest, max(abs(a) for reach in reaches for a in reach))

    def test_errors(self):
        check_calls(self, greatest_second, ("row", "first", "stretches"))
        known = Stretches([(0, 0), (0, 0)])
        self.assertEqual(error_of(greatest_second, FREE, (3, 3), 2, known), ("NotMet", "first"))
        self.assertEqual(error_of(greatest_second, FREE, (3, 3), 0, known), ("BadNumber", "first"))
        self.assertEqual(error_of(greatest_second, FREE, (3, 3), 2, Stretches([(0, 0)])), ("OtherSize", 2))
        self.assertEqual(error_of(greatest_second, UNFIRM, (3, 3), 2, known), ("NotFirm", (0, 1)))
        self.assertIsNone(error_of(greatest_second, FREE, (3, 3), 3, known))


if __name__ == "__main__":
    unittest.main()
