"""Stretches and their worlds."""

import itertools
import unittest
from fractions import Fraction

from makers import WRONG_INTEGERS, WRONG_KINDS, error_of, first_of, some_numbers
from rowmakers import all_of, dot
from splitnumbers.numbers import Numbers
from splitnumbers.stretches import Stretches, worlds_of

KNOWN = Stretches([(1, 3), (-2, 0)])


def some_stretches(many, seed, widths=(1, 4), longest=3, greatest=4):
    """Many stretches as pairs."""
    for k in range(many):
        width = widths[0] + k % (widths[1] - widths[0] + 1)
        numbers = some_numbers(2 * width, seed + 7919 * k * k, 0, 2 * greatest)
        yield [(a - greatest, a - greatest + b % (longest + 1)) for a, b in zip(numbers[::2], numbers[1::2])]


def plain_worlds(pairs):
    return list(itertools.product(*[range(low, high + 1) for low, high in pairs]))


class StretchesTest(unittest.TestCase):
    def test_made_of_pairs(self):
        self.assertEqual((KNOWN.lows, KNOWN.highs, len(KNOWN)), ((1, -2), (3, 0), 2))
        pairs = [[1, 3], [-2, 0]]
        made = Stretches(pairs)
        pairs[0][0] = 7
        pairs.pop()
        self.assertEqual((made.lows, made.highs), ((1, -2), (3, 0)))
        self.assertTrue(made == KNOWN)
        self.assertFalse(made != KNOWN)
        self.assertFalse(KNOWN == Stretches([(1, 3), (-2, 1)]))
        self.assertFalse(KNOWN == Stretches([(0, 3), (-2, 0)]))
        self.assertFalse(KNOWN == Stretches([(1, 3)]))
        self.assertFalse(KNOWN == [(1, 3), (-2, 0)])
        self.assertFalse(KNOWN == ((1, -2), (3, 0)))
        empty = Stretches(())
        self.assertEqual((empty.lows, empty.highs, len(empty), empty == Stretches([])), ((), (), 0, True))

    def test_errors(self):
        for wrong in WRONG_KINDS + (KNOWN,):
            self.assertEqual(error_of(Stretches, wrong), ("BadStretch", -1))
        for wrong in WRONG_KINDS + ((), (1,), (1, 2, 3), (2, 1), KNOWN, Numbers([1, 2])):
            self.assertEqual(error_of(Stretches, [(0, 0), wrong, None]), ("BadStretch", 1))
        for wrong in WRONG_INTEGERS:
            self.assertEqual(error_of(Stretches, [(0, 0), [0, 0], (wrong, 5)]), ("BadStretch", 2))
            self.assertEqual(error_of(Stretches, [(-5, wrong)]), ("BadStretch", 0))

    def test_agrees(self):
        self.assertIs(KNOWN.agrees((1, 0)), True)
        self.assertIs(KNOWN.agrees([3, -2]), True)
        self.assertIs(KNOWN.agrees((0, 0)), False)
        self.assertIs(KNOWN.agrees((4, 0)), False)
        self.assertIs(KNOWN.agrees((1, 1)), False)
        self.assertIs(KNOWN.agrees((1, -3)), False)
        self.assertIs(KNOWN.agrees(Numbers([3, -3], 2)), True)
        self.assertIs(KNOWN.agrees(Numbers([1, -1], 2)), False)
        self.assertIs(KNOWN.agrees(Numbers([2, 1], 2)), False)
        self.assertIs(KNOWN.agrees(Numbers([61, 0], 20)), False)
        self.assertIs(Stretches([]).agrees(()), True)
        for wrong in WRONG_KINDS:
            self.assertEqual(error_of(KNOWN.agrees, wrong), ("BadNumbers", -1))
        for wrong in WRONG_INTEGERS:
            self.assertEqual(error_of(KNOWN.agrees, (9, wrong, None)), ("BadNumbers", 1))
        for row in ((), (9,), [1, 0, 0], Numbers([1])):
            self.assertEqual(error_of(KNOWN.agrees, row), ("OtherSize", 2))
        for pairs in some_stretches(20, 441):
            worlds = plain_worlds(pairs)
            for row in all_of(len(pairs), (-3, -1, 0, 2)):
                self.assertEqual(Stretches(pairs).agrees(row), row in worlds)
            quarters = [Fraction(a, 4) for a in some_numbers(len(pairs), 442, -20, 20)]
            each = all(low <= a <= high for a, (low, high) in zip(quarters, pairs))
            self.assertEqual(Stretches(pairs).agrees(Numbers([int(4 * a) for a in quarters], 4)), each)

    def test_worlds(self):
        self.assertEqual(list(worlds_of(KNOWN)), [(1, -2), (1, -1), (1, 0), (2, -2), (2, -1), (2, 0), (3, -2), (3, -1), (3, 0)])
        self.assertEqual(KNOWN.world_count(), 9)
        self.assertEqual((list(worlds_of(Stretches([]))), Stretches([]).world_count()), ([()], 1))
        self.assertEqual(list(worlds_of(Stretches([(5, 5)]))), [(5,)])
        for pairs in some_stretches(30, 443):
            known = Stretches(pairs)
            worlds = plain_worlds(pairs)
            self.assertEqual(known.world_count(), len(worlds))
            if len(worlds) <= 200:
                self.assertEqual(list(worlds_of(known)), worlds)
            else:
                self.assertEqual(error_of(first_of, worlds_of(known)), ("TooMany", 200))

    def test_limit_of_worlds(self):
        self.assertEqual(len(list(worlds_of(Stretches([(0, 199)])))), 200)
        self.assertEqual(len(list(worlds_of(Stretches([(1, 20), (0, 0), (-9, 0)])))), 200)
        for pairs in ([(0, 200)], [(1, 67), (1, 3)], [(-10 ** 9, 0)], [(-10 ** 30, 10 ** 30)] * 12):
            # The error comes up when the first world is asked for.
            generator = worlds_of(Stretches(pairs))
            self.assertEqual(error_of(first_of, generator), ("TooMany", 200))
        self.assertEqual(Stretches([(-10 ** 9, 0)]).world_count(), 10 ** 9 + 1)
        self.assertEqual(Stretches([(0, 10 ** 30 - 1)] * 3).world_count(), 10 ** 90)

    def test_reach_and_end_worlds(self):
        self.assertEqual(KNOWN.end_world((1, 1)), (3, 0))
        self.assertEqual(KNOWN.end_world([0, -1]), (1, -2))
        self.assertEqual(KNOWN.reach((1, -1)), (1, 5))
        self.assertEqual(KNOWN.reach([0, 0]), (0, 0))
        self.assertEqual(KNOWN.end_world((0, 0)), (1, -2))
        self.assertEqual((Stretches([]).reach(()), Stretches([]).end_world(())), ((0, 0), ()))
        for pairs in some_stretches(30, 444):
            known = Stretches(pairs)
            worlds = plain_worlds(pairs)
            for signs in all_of(len(pairs), (-1, 0, 1)):
                sums = [dot(world, signs) for world in worlds]
                reach = known.reach(signs)
                self.assertEqual(reach, (min(sums), max(sums)))
                end = tuple(high if a == 1 else low for a, (low, high) in zip(signs, pairs))
                self.assertEqual(known.end_world(signs), end)
                self.assertEqual(dot(end, signs), reach[1])
                contrary = [-a for a in signs]
                self.assertEqual(dot(known.end_world(contrary), signs), reach[0])
                self.assertEqual(known.reach(contrary), (-reach[1], -reach[0]))

    def test_errors_of_signs(self):
        for call in (KNOWN.reach, KNOWN.end_world):
            for wrong in WRONG_KINDS:
                self.assertEqual(error_of(call, wrong), ("BadSigns", -1))
            for wrong in WRONG_INTEGERS + (2, -2):
                self.assertEqual(error_of(call, (1, wrong, None)), ("BadSigns", 1))
            for signs in ((), (1,), [1, 1, 0]):
                self.assertEqual(error_of(call, signs), ("OtherSize", 2))


if __name__ == "__main__":
    unittest.main()
