"""Sets of places: their check, their order, the least ones."""

import itertools
import unittest

from makers import WRONG_KINDS, error_of, plain_parts
from splitnumbers.sets import least_sets, parts_of, set_of


class SetsTest(unittest.TestCase):
    def test_set_of(self):
        self.assertEqual(set_of([2, 0], 3), (0, 2))
        self.assertEqual(set_of((), 0), ())
        self.assertEqual(set_of([], 4), ())
        for order in itertools.permutations(range(3)):
            self.assertEqual(set_of(order, 3), (0, 1, 2))

    def test_errors(self):
        for value in WRONG_KINDS:
            self.assertEqual(error_of(set_of, value, 3), ("BadSet", -1), value)
        for wrong in (-1, 3, True, None, "1", 1.0, (1,)):
            self.assertEqual(error_of(set_of, [0, wrong, None], 3), ("BadSet", 1), wrong)
        self.assertEqual(error_of(set_of, [0, 2, 0, 9], 3), ("BadSet", 2))
        self.assertEqual(error_of(set_of, [1, 1], 3), ("BadSet", 1))
        self.assertEqual(error_of(set_of, [0], 0), ("BadSet", 0))

    def test_handed_in_stays(self):
        places = [2, 1]
        set_of(places, 3)
        self.assertEqual(places, [2, 1])

    def test_parts_of(self):
        self.assertEqual(list(parts_of(3)), [(0,), (1,), (2,), (0, 1), (0, 2), (1, 2), (0, 1, 2)])
        self.assertEqual(list(parts_of(0)), [])
        for count in range(8):
            self.assertEqual(list(parts_of(count)), plain_parts(count)[1:])
        self.assertEqual(len(list(parts_of(12))), 4095)
        generator = parts_of(4)
        self.assertEqual((next(generator), next(generator)), ((0,), (1,)))

    def test_least_sets(self):
        self.assertEqual(least_sets([(1, 2), (0, 1, 2), (0,), (2, 1), [1, 2]]), ((0,), (1, 2)))
        self.assertEqual(least_sets(([0, 1], (), [2])), ((),))
        self.assertEqual(least_sets([]), ())
        self.assertEqual(least_sets([(1,), (0, 2), (0, 1)]), ((0, 2), (1,)))

    def test_least_sets_of_all_choices(self):
        parts = plain_parts(3)
        for chosen in itertools.product((False, True), repeat=len(parts)):
            sets = [part for part, is_in in zip(parts, chosen) if is_in]
            least = least_sets(sets[::-1] + sets)
            plain = [part for part in sets if not any(set(other) < set(part) for other in sets)]
            self.assertEqual(least, tuple(sorted(plain)))


if __name__ == "__main__":
    unittest.main()
