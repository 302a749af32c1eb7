"""Mixes, mixes of roundings, mixes of signs."""

import itertools
import unittest
from fractions import Fraction

from makers import WRONG_INTEGERS, WRONG_KINDS, error_of
from splitnumbers.mixes import Mix, RoundingMix, SignMix
from splitnumbers.numbers import Numbers
from splitnumbers.tables import Table

KINDS = (Mix, RoundingMix, SignMix)
MIX = Mix([((1, 5), (2, 3)), ([0, -1], (1, 3))])


class MakingTest(unittest.TestCase):
    def test_entries(self):
        self.assertEqual(MIX.entries, (((0, -1), (1, 3)), ((1, 5), (2, 3))))
        self.assertEqual(Mix([[[3], [2, 2]]]).entries, (((3,), (1, 1)),))
        self.assertEqual(Mix([((3,), 1)]).entries, (((3,), (1, 1)),))
        self.assertEqual(Mix([((), 1)]).size, 0)
        self.assertEqual((MIX.size, len(MIX), list(MIX)), (2, 2, list(MIX.entries)))

    def test_kind(self):
        self.assertEqual([kind.KIND for kind in KINDS], ["mix", "roundings", "signs"])
        self.assertEqual(MIX.KIND, "mix")
        for kind in KINDS:
            self.assertIn("KIND", vars(kind))
            self.assertIn("__init__", vars(kind))
        self.assertEqual((RoundingMix.__bases__, SignMix.__bases__), ((Mix,), (Mix,)))

    def test_errors_of_all_mixes(self):
        good = ((1, 0), (1, 2))
        for kind in KINDS:
            for wrong in WRONG_KINDS + ([], (), MIX):
                self.assertEqual(error_of(kind, wrong), ("BadMix", -1), wrong)
            pairs = [None, 5, (), ((0, 1),), ((0, 1), (1, 2), 1), (5, (1, 2)), ("01", (1, 2)), (Numbers([0, 1]), (1, 2)),
                     ((0, 1), (1, 0)), ((0, 1), None), ((0, 1), True), ((0, 1), 0), ((0, 1), (-1, 2)), ((0, 1), "1"),
                     ((0,), (1, 2)), ((0, 1, 0), (1, 2)), ((1, 0), (1, 2)), ([1, 0], (1, 2))]
            pairs += [((0, wrong), (1, 2)) for wrong in WRONG_INTEGERS]
            for pair in pairs:
                self.assertEqual(error_of(kind, [good, pair, None]), ("BadMix", 1), (kind, pair))
            self.assertEqual(error_of(kind, [good]), ("BadMix", -1))
            self.assertEqual(error_of(kind, [good, ((1, 1), (2, 3))]), ("BadMix", -1))

    def test_order_of_errors(self):
        # The sum of the weights is looked at behind the entries, the numbers of a kind behind that.
        self.assertEqual(error_of(RoundingMix, [((2,), (1, 2))]), ("BadMix", -1))
        self.assertEqual(error_of(RoundingMix, [((2,), (1, 2)), (None, (1, 2))]), ("BadMix", 1))
        self.assertEqual(error_of(SignMix, [((2,), (1, 2))]), ("BadMix", -1))

    def test_what_is_handed_in_stays(self):
        numbers, weight = [1, 2], [2, 2]
        pair = [numbers, weight]
        entries = [pair]
        mix = Mix(entries)
        numbers[0] = 9
        weight[0] = 9
        entries.clear()
        self.assertEqual((mix.entries, len(pair)), ((((1, 2), (1, 1)),), 2))

    def test_equality(self):
        entries = [((1, 0), (1, 2)), ((0, 1), (1, 2))]
        self.assertTrue(Mix(entries) == Mix(entries[::-1]))
        self.assertTrue(RoundingMix(entries) == RoundingMix(entries[::-1]))
        self.assertFalse(Mix(entries) == RoundingMix(entries))
        self.assertFalse(RoundingMix(entries) == Mix(entries))
        self.assertFalse(RoundingMix([((1,), 1)]) == SignMix([((1,), 1)]))
        self.assertFalse(Mix(entries) == Mix([((1, 0), 1)]))
        self.assertFalse(Mix(entries) == Mix(entries).entries)
        self.assertTrue(MIX != Mix(entries))

    def test_even(self):
        for kind in KINDS:
            mix = kind.even([[1, 0], (1, 0)][:1])
            self.assertEqual((type(mix), mix.entries), (kind, (((1, 0), (1, 1)),)))
            for wrong in WRONG_KINDS + ([], ()):
                self.assertEqual(error_of(kind.even, wrong), ("BadMix", -1))
            self.assertEqual(error_of(kind.even, [(1, 0), (1, 0)]), ("BadMix", 1))
            self.assertEqual(error_of(kind.even, [(1, 0), (1, 0, 0)]), ("BadMix", 1))
            self.assertEqual(error_of(kind.even, [(1, 0), None]), ("BadMix", 1))
        self.assertEqual(Mix.even([(5,), (3,), (4,)]).entries, (((3,), (1, 3)), ((4,), (1, 3)), ((5,), (1, 3))))
        self.assertEqual(error_of(RoundingMix.even, [(1,), (2,)]), ("BadMix", 1))
        self.assertEqual(error_of(SignMix.even, [(1,), (0,)]), ("BadMix", 1))


class MeansTest(unittest.TestCase):
    def test_means(self):
        self.assertEqual(MIX.means(), Numbers([2, 9], 3))
        self.assertEqual(Mix([((), 1)]).means(), Numbers([]))
        self.assertEqual(Mix.even([(1, 0), (0, 1)]).means(), Numbers([1, 1], 2))

    def test_mean_at(self):
        self.assertEqual(MIX.mean_at([1, 1]), (11, 3))
        self.assertEqual(MIX.mean_at(Numbers([3, 1], 2)), (5, 2))
        self.assertEqual(MIX.mean_at((0, 0)), (0, 1))

    def test_example(self):
        mix = RoundingMix([((1, 0), (2, 3)), ((0, 1), (1, 3))])
        self.assertEqual((mix.means().tops, mix.means().bottom), ((2, 1), 3))
        self.assertEqual(mix.mean_square((1, -1), (1, 3)), (8, 9))

    def test_mean_square(self):
        self.assertEqual(MIX.mean_square([1, 0]), (2, 3))
        self.assertEqual(MIX.mean_square([1, 0], 1), (1, 3))
        self.assertEqual(MIX.mean_square(Numbers([1, 0], 2), [1, 2]), (1, 12))

    def test_against_plain_sums(self):
        tuples = list(itertools.product((-2, 0, 3), repeat=2))
        for k in range(1, 8):
            chosen = tuples[:k]
            tops = [1 + (5 * j + k) % 4 for j in range(k)]
            mix = Mix([(x, (top, sum(tops))) for x, top in zip(chosen, tops)])
            weights = [Fraction(top, sum(tops)) for top in tops]
            for row, bottom, middle in (((1, 2), 1, 0), ((-3, 1), 2, Fraction(1, 3)), ((0, 4), 5, Fraction(-3, 2))):
                values = [Fraction(sum(a * b for a, b in zip(row, x)), bottom) for x in chosen]
                mean = sum(w * v for w, v in zip(weights, values))
                square = sum(w * (v - middle) ** 2 for w, v in zip(weights, values))
                told = (Fraction(middle).numerator, Fraction(middle).denominator)
                self.assertEqual(Fraction(*mix.mean_at(Numbers(row, bottom))), mean)
                self.assertEqual(Fraction(*mix.mean_square(Numbers(row, bottom), told)), square)
                self.assertEqual(Fraction(*mix.means().dot(Numbers(row, bottom))), mean)

    def test_errors(self):
        for call in (MIX.mean_at, MIX.mean_square, lambda row: MIX.mean_square(row, None)):
            for wrong in WRONG_KINDS:
                self.assertEqual(error_of(call, wrong), ("BadNumbers", -1))
            self.assertEqual(error_of(call, [1, (1, 2), 3]), ("BadNumbers", 1))
            self.assertEqual(error_of(call, [1, 2, 3]), ("OtherSize", 2))
            self.assertEqual(error_of(call, Numbers([1])), ("OtherSize", 2))
        for wrong in (None, True, (1, 0), "1"):
            self.assertEqual(error_of(MIX.mean_square, [1, 2], wrong), ("BadRatio", "middle"))


class RoundingMixTest(unittest.TestCase):
    def test_numbers(self):
        # Places count as handed in, not in ascending order.
        self.assertEqual(error_of(RoundingMix, [((1, 1), (1, 2)), ((0, -1), (1, 2))]), ("BadMix", 1))
        self.assertEqual(error_of(RoundingMix, [((1, 2), (1, 2)), ((0, -1), (1, 2))]), ("BadMix", 0))
        self.assertEqual(RoundingMix([([1, 0], 1)]).entries, (((1, 0), (1, 1)),))

    def test_greatest_miss(self):
        table = Table([(1, 2), (3, -1)])
        mix = RoundingMix.even([(0, 1), (1, 0)])
        self.assertEqual(mix.greatest_miss(table, [(1, 2), (1, 3)]), ((5, 6), (13, 6)))
        self.assertEqual(mix.greatest_miss(table, Numbers([1, 1])), ((2, 1), (3, 1)))
        self.assertEqual(mix.greatest_miss(Table.zeros(0, 2), [0, 1]), ())
        for shares in itertools.product((0, (1, 3), (1, 2), 1), repeat=2):
            w = [Fraction(*s) if isinstance(s, tuple) else Fraction(s) for s in shares]
            plain = [max(abs(sum(a * (t - s) for a, t, s in zip(row, numbers, w))) for numbers in ((0, 1), (1, 0)))
                     for row in table.rows]
            self.assertEqual([Fraction(*ratio) for ratio in mix.greatest_miss(table, shares)], plain)

    def test_errors_of_greatest_miss(self):
        table = Table([(1, 2), (3, -1)])
        mix = RoundingMix.even([(0, 1), (1, 0)])
        for wrong in WRONG_KINDS:
            self.assertEqual(error_of(mix.greatest_miss, table, wrong), ("BadShares", -1))
        self.assertEqual(error_of(mix.greatest_miss, table, [0, 2, 1]), ("BadShares", 1))
        self.assertEqual(error_of(mix.greatest_miss, table, [0, 1, 1]), ("OtherSize", 2))
        self.assertEqual(error_of(mix.greatest_miss, Table.zeros(1, 3), [0, 1]), ("OtherSize", 3))
        self.assertEqual(error_of(mix.greatest_miss, Table.zeros(1, 3), [0, 1, 1]), ("OtherSize", 3))
        self.assertEqual(error_of(mix.greatest_miss, Table.zeros(0, 3), [0, 1, 5]), ("BadShares", 2))


class SignMixTest(unittest.TestCase):
    def test_signs_of_one_part(self):
        mix = SignMix([((1, 0, 1), (1, 2)), ((-1, 0, 1), (1, 2))])
        self.assertEqual(mix.signed_part(), (0, 2))
        self.assertEqual(SignMix([((0, 0), 1)]).signed_part(), ())
        self.assertEqual(error_of(SignMix, [((1, 0), (1, 2)), ((1, 1), (1, 2))]), ("BadMix", 1))
        self.assertEqual(error_of(SignMix, [((2, 0), (1, 2)), ((1, 0), (1, 2))]), ("BadMix", 0))
        self.assertEqual(error_of(SignMix, [((1, 0), (1, 2)), ((-2, 0), (1, 2))]), ("BadMix", 1))
        # The part that counts is that of the entry handed in first.
        self.assertEqual(error_of(SignMix, [((1, 1), (1, 3)), ((-1, 0), (1, 3)), ((0, 1), (1, 3))]), ("BadMix", 1))

    def test_methods_stand_in_their_class(self):
        for name in ("means", "mean_at", "mean_square", "even", "__len__", "__iter__", "__eq__", "size"):
            self.assertIn(name, vars(Mix))
        self.assertIn("greatest_miss", vars(RoundingMix))
        self.assertIn("signed_part", vars(SignMix))


if __name__ == "__main__":
    unittest.main()
