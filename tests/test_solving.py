"""Weights that fill a room with the greatest gain, or prices which show that none do."""

import itertools
import unittest
from fractions import Fraction

from makers import WRONG_INTEGERS, WRONG_KINDS, error_of, some_numbers
from splitnumbers.numbers import Numbers
from splitnumbers.solving import solve
from splitnumbers.tables import Table


def fraction(ratio):
    return Fraction(*ratio) if isinstance(ratio, (tuple, list)) else Fraction(ratio)


class SolveTest(unittest.TestCase):
    def shown(self, columns, room, gains):
        """Solves, and shows by weights and prices that the answer is right; returns the word."""
        word, total, weights, prices = solve(columns, room, gains)
        entries = [fraction(ratio) for ratio in room]
        self.assertIs(type(prices), tuple)
        costs = [fraction(price) for price in prices]
        self.assertEqual(len(costs), len(columns[0]))
        for price in prices:
            self.assertEqual(price, (Fraction(*price).numerator, Fraction(*price).denominator))
        asked = [sum(y * a for y, a in zip(costs, column)) for column in columns]
        paid = sum(y * b for y, b in zip(costs, entries))
        if word == "none":
            self.assertIsNone(total)
            self.assertIsNone(weights)
            self.assertTrue(all(a >= 0 for a in asked))
            self.assertLess(paid, 0)
            return word
        self.assertEqual(word, "best")
        self.assertIs(type(weights), tuple)
        parts = [fraction(weight) for weight in weights]
        self.assertEqual(len(parts), len(columns))
        self.assertTrue(all(x >= 0 for x in parts))
        for i, entry in enumerate(entries):
            self.assertEqual(sum(x * column[i] for x, column in zip(parts, columns)), entry)
        gain = sum(x * g for x, g in zip(parts, gains))
        self.assertEqual(fraction(total), gain)
        self.assertEqual(total, (gain.numerator, gain.denominator))
        self.assertEqual(paid, gain)
        self.assertTrue(all(a >= g for a, g in zip(asked, gains)))
        return word

    def test_example(self):
        self.assertEqual(solve([(1, 1), (1, 2), (1, 4)], (1, 3), (0, 1, 1)),
                         ("best", (1, 1), ((0, 1), (1, 2), (1, 2)), ((1, 1), (0, 1))))

    def test_small_cases(self):
        self.assertEqual(self.shown([(2,)], [(1, 3)], [6]), "best")
        self.assertEqual(solve([[2]], [(1, 3)], [6])[1:3], ((1, 1), ((1, 6),)))
        self.assertEqual(self.shown([(2,)], [-1], [6]), "none")
        self.assertEqual(self.shown([(-2,)], [-1], [6]), "best")
        self.assertEqual(self.shown([(0,)], [1], [0]), "none")
        self.assertEqual(self.shown([(0,)], [0], [0]), "best")
        self.assertEqual(self.shown([(0,), (1,)], [0], [0, -3]), "best")
        self.assertEqual(self.shown([(1, 1), (1, 1)], (1, 1), (3, 5)), "best")
        self.assertEqual(self.shown([(1, 1), (1, 1)], (1, 2), (3, 5)), "none")
        self.assertEqual(self.shown([(1, 1, 2), (1, -1, 0)], (2, 0, 2), (1, 1)), "best")
        self.assertEqual(solve([(1,), (1,)], Numbers([1], 2), Numbers([-4, -6]))[1], (-2, 1))

    def test_bounded_gains(self):
        # A line of ones bounds all weights, so each gain has a greatest value.
        words = []
        for seed in range(400):
            lines, many = 1 + seed % 4, 2 + seed % 6
            columns = [tuple([1] + some_numbers(lines, 50 * seed + k, -3, 3)) for k in range(many)]
            tops = some_numbers(lines, 7 * seed + 1, -2, 2)
            room = [1] + [(top, 1 + seed % 3) for top in tops]
            words.append(self.shown(columns, room, some_numbers(many, seed, -3, 3)))
        self.assertGreater(words.count("best"), 60)
        self.assertGreater(words.count("none"), 60)

    def test_rooms_that_some_weights_fill(self):
        for seed in range(200):
            lines, many = 1 + seed % 5, 1 + seed % 7
            columns = [tuple([1] + some_numbers(lines, 90 * seed + k, -2, 2)) for k in range(many)]
            weights = [Fraction(w, 1 + seed % 4) for w in some_numbers(many, seed + 1, 0, 3)]
            sums = [sum(w * column[i] for w, column in zip(weights, columns)) for i in range(lines + 1)]
            room = [(total.numerator, total.denominator) for total in sums]
            self.assertEqual(self.shown(columns, room, some_numbers(many, seed, -5, 5)), "best")

    def test_rooms_that_one_column_fills(self):
        # Here unit columns stay behind that hold nothing, and must not be filled again.
        self.shown([(1, -1), (1, 1), (1, -2), (1, 2), (1, -1)], [1, -2], [-2, 3, 0, -1, -3])
        self.shown([(1, -2, 0), (1, -2, 1), (1, 1, 1), (1, 1, -1), (1, -2, 1), (1, -2, 1)], [1, -1, 1],
                   [-3, -1, -3, -3, -3, 2])
        for seed in range(400):
            lines, many = 2 + seed % 3, 3 + seed % 4
            columns = [tuple([1] + some_numbers(lines, 31 * seed + k, -2, 2)) for k in range(many)]
            self.assertEqual(self.shown(columns, columns[seed % many], some_numbers(many, seed, -3, 3)), "best")

    def test_lines_that_repeat(self):
        for seed in range(60):
            columns = [tuple(a for a in [1] + some_numbers(2, 11 * seed + k, -2, 2) for _ in range(2)) for k in range(4)]
            room = [(1, 1)] * 2 + [(top, 3) for top in some_numbers(2, seed, -2, 2) for _ in range(2)]
            self.shown(columns, room, some_numbers(4, seed, -3, 3))

    def test_small_numbers_all_through(self):
        for entries in itertools.product((-1, 0, 1), repeat=4):
            columns = [entries[:2], entries[2:]]
            for room in itertools.product((-1, 0, 1), repeat=2):
                self.shown(columns, room, (0, 0))
                self.shown(columns, room, (-1, -2))

    def test_no_circle(self):
        for columns, gains in (
            ([(-2, 4, -4, 1), (4, 1, -3, 1), (-1, -4, -1, 1), (-2, -4, 1, 1)], (-2, 2, 2, 4)),
            ([(1, 0, 0, 1), (1, 4, 2, 1), (3, -1, 4, 1), (1, -1, -4, 1), (2, -1, -2, 1)], (1, -1, 0, 1, 4)),
        ):
            # These go round in a circle if equally close lines are chosen without regard to their columns.
            self.assertEqual(self.shown(columns + list(Table.unit(4).rows), (0, 0, 0, 1), gains + (0,) * 4), "best")
        # Always taking the column with the greatest gain would go round in a circle here.
        columns = [(1, 1, 1), (-11, -3, 0), (-5, -1, 0), (18, 2, 0), (1, 0, 0), (0, 1, 0), (0, 0, 1)]
        gains = (10, -57, -9, -24, 0, 0, 0)
        self.assertEqual(self.shown(columns, (0, 0, 1), gains), "best")
        self.assertEqual(solve(columns, (0, 0, 1), gains)[1], (1, 1))

    def test_what_is_handed_in_stays(self):
        columns, room, gains = [[1, 2], [3, 4]], [1, (1, 2)], [1, 1]
        solve(columns, room, gains)
        self.assertEqual((columns, room, gains), ([[1, 2], [3, 4]], [1, (1, 2)], [1, 1]))

    def test_errors(self):
        for wrong in WRONG_KINDS + ([], (), Table([(1,)])):
            self.assertEqual(error_of(solve, wrong, None, None), ("BadRows", -1))
        for wrong in WRONG_KINDS + ((), (1,), (1, 2, 3), Numbers([1, 2])) + tuple((1, bad) for bad in WRONG_INTEGERS):
            self.assertEqual(error_of(solve, [(1, 2), wrong, None], None, None), ("BadRows", 1))
        self.assertEqual(error_of(solve, [(), (1,)], None, None), ("BadRows", 0))
        self.assertEqual(error_of(solve, [(), ()], None, None), ("BadRows", 0))
        self.assertEqual(error_of(solve, [(None,), ()], None, None), ("BadRows", 0))
        columns = [(1, 2), (3, 4), (5, 6)]
        for wrong in WRONG_KINDS:
            self.assertEqual(error_of(solve, columns, wrong, None), ("BadNumbers", -1))
            self.assertEqual(error_of(solve, columns, (1, 1), wrong), ("BadNumbers", -1))
        self.assertEqual(error_of(solve, columns, [1, 2, (1, 0)], None), ("BadNumbers", 2))
        self.assertEqual(error_of(solve, columns, [1, 2, 3], None), ("OtherSize", 2))
        self.assertEqual(error_of(solve, columns, Numbers([1]), None), ("OtherSize", 2))
        self.assertEqual(error_of(solve, columns, [1, 2], [1, (1, 1)]), ("BadNumbers", 1))
        self.assertEqual(error_of(solve, columns, [1, 2], Numbers([1, 1, 1], 2)), ("BadNumbers", -1))
        self.assertEqual(error_of(solve, columns, [1, 2], [1, 2]), ("OtherSize", 3))


if __name__ == "__main__":
    unittest.main()
