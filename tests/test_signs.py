"""Signs: their order, their check, leading ones, signs beside one another."""

import itertools
import unittest

from makers import WRONG_KINDS, error_of, plain_parts, plain_signs
from splitnumbers.signs import (beside, contrary, is_leading, joined_signs, leading_signs, made_leading, part_of,
                                signs_from, signs_of)

THREES = list(itertools.product((-1, 0, 1), repeat=3))


class SignsTest(unittest.TestCase):
    def test_signs_of(self):
        self.assertEqual(list(signs_of((0, 2), 3)), [(-1, 0, -1), (-1, 0, 1), (1, 0, -1), (1, 0, 1)])
        self.assertEqual(list(signs_of((), 2)), [(0, 0)])
        for part in plain_parts(4):
            self.assertEqual(list(signs_of(part, 4)), plain_signs(part, 4))

    def test_leading_signs(self):
        self.assertEqual(list(leading_signs((1, 2), 3)), [(0, 1, -1), (0, 1, 1)])
        self.assertEqual(list(leading_signs((), 2)), [])
        for part in plain_parts(4)[1:]:
            plain = [x for x in plain_signs(part, 4) if x[part[0]] == 1]
            self.assertEqual(list(leading_signs(part, 4)), plain)
            self.assertTrue(all(is_leading(x) for x in plain))

    def test_they_are_generators(self):
        for call in (signs_of, leading_signs):
            generator = call((0, 1, 2), 3)
            self.assertEqual(next(generator)[0], -1 if call is signs_of else 1)
            self.assertEqual(len(list(generator)), 7 if call is signs_of else 3)

    def test_signs_from(self):
        self.assertEqual(signs_from([1, 0, -1], 3), (1, 0, -1))
        self.assertEqual(signs_from((), 0), ())
        for value in WRONG_KINDS:
            self.assertEqual(error_of(signs_from, value, 3), ("BadSigns", -1))
        for wrong in (2, -2, True, None, "1", 1.0, (1,)):
            self.assertEqual(error_of(signs_from, [0, wrong, None], 2), ("BadSigns", 1))
        self.assertEqual(error_of(signs_from, [0, 1], 3), ("OtherSize", 3))

    def test_part_of_and_contrary(self):
        for x in THREES:
            self.assertEqual(part_of(x), tuple(j for j in range(3) if x[j]))
            self.assertEqual(contrary(x), tuple(-a for a in x))

    def test_leading(self):
        self.assertIs(is_leading((0, 1, -1)), True)
        self.assertIs(is_leading((0, -1, 1)), False)
        self.assertIs(is_leading((0, 0)), False)
        self.assertEqual(made_leading((0, 0)), (0, 0))
        self.assertEqual(made_leading((0, -1, 1)), (0, 1, -1))
        self.assertEqual(made_leading((0, 1, -1)), (0, 1, -1))
        for x in THREES:
            self.assertIn(made_leading(x), (x, contrary(x)))
            self.assertEqual(is_leading(made_leading(x)), any(x))

    def test_beside_and_joined(self):
        for x, y in itertools.product(THREES, THREES):
            free = not any(a and b for a, b in zip(x, y))
            self.assertIs(beside(x, y), free)
            if free:
                self.assertEqual(joined_signs(x, y), tuple(a + b for a, b in zip(x, y)))
            else:
                self.assertEqual(error_of(joined_signs, x, y), ("NotFitting", "columns"))


if __name__ == "__main__":
    unittest.main()
