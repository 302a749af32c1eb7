"""What holds of the whole program: the same answers again, new lists, and nothing handed in that is changed."""

import copy
import unittest

from makers import error_of, first_of
from splitnumbers import (agreeing, blocks, budgets, deeds, evenmixes, games, joining, loosecolumns, putting, rings,
                          squaring, stretches, triangles, trials, worlds)
from splitnumbers.desks import Desk
from splitnumbers.mixes import SignMix
from splitnumbers.stretches import Stretches
from splitnumbers.tables import Table

FREE = Table.zeros(0, 2)
ROW = Table([(1, 1)])
TWO = Table([(1, 1), (1, -1)])
RING = Table([(1, 0, 1), (1, 1, 0), (0, 1, 1)])
KNOWN = Stretches([(1, 3), (-2, 0)])
HALF = [[1, 2], [1, 2]]

CALLS = [
    (triangles.half_both, FREE, [3, 3], [3, -3], 3, 6, HALF), (triangles.is_good, FREE, [3, 3], [3, -3], 3, 6, [1, -1]),
    (triangles.triangle_of, FREE, [3, 3], [3, -3], 3, 6, [1, 1], HALF), (triangles.both_mix, FREE, [3, 3], [3, -3], 3, 6, HALF),
    (triangles.cheap_both, FREE, [3, 3], [3, -3], 3, 6, [1, 1], HALF), (agreeing.harm, FREE, [3, 3], [3, -3]),
    (agreeing.agree, FREE, [3, 3], [3, -3]), (agreeing.couple_failing, TWO, [1, 1]), (joining.at_row, TWO, 0, TWO, 1),
    (joining.at_column, TWO, 0, TWO, 1), (joining.blocks_table, TWO, FREE, ROW), (joining.tolls_at_row, [1, 2, 3], 2, 0, 2, 1),
    (joining.joined_lones, TWO, 0, ROW, 1, [2, 1], [1]), (blocks.blocks_of, TWO), (blocks.failing_block, TWO, [1, 1]),
    (blocks.block_loose, TWO, [2, 1]), (blocks.is_one_block, TWO), (rings.odd_rings, RING), (rings.ring_lots, RING),
    (rings.ring_tolls, RING), (putting.put_in, TWO, 0, ROW, 0), (putting.is_telling, TWO, 0, [1, 1], ROW, 0),
    (loosecolumns.column_sides, ROW, [1], [2], [1, 0], [1]), (loosecolumns.column_failing, ROW, [3], [2]),
    (squaring.sum_squares, TWO, [1, -1]), (squaring.mean_squares, TWO, SignMix([([1, 1], 1)])),
    (squaring.balanced, SignMix([([1, 1], 1)])), (games.part_game, TWO, [1, 0]), (games.even_of, TWO), (games.even_part, TWO),
    (games.square_mix, TWO, [1, 0], [[2, 1], 2]), (games.square_weights, TWO, [1, 0], [[3, 2], 2]),
    (games.even_serves, TWO, [[2, 1], 2]), (games.even_failing, TWO, [[1, 2], 2]), (evenmixes.even_mix, TWO, [2, [4, 2]], HALF),
    (evenmixes.square_bounds, [2, [4, 2]], 3), (KNOWN.agrees, [1, 0]), (KNOWN.reach, [1, -1]), (KNOWN.end_world, [1, -1]),
    (worlds.greatest_toll, FREE, KNOWN), (worlds.serves_all, FREE, KNOWN, 2), (worlds.world_with, FREE, KNOWN, 2),
    (worlds.safe_split, FREE, KNOWN, 2, [1, 0]), (worlds.greatest_second, FREE, [3, 3], 3, KNOWN),
    (budgets.least_price, FREE, [1, 2], [1, -1], HALF, [1, 1]), (budgets.price_corners, FREE, [1, 2], [1, -1], HALF),
    (budgets.cheapest_within, FREE, [1, 2], [1, -1], HALF, [1, 1]), (deeds.deed_of, ["row", [1, 2], 0, 1]),
    (deeds.deed_text, ["row", [1, 2], 0, 1]), (deeds.deed_from, "toll: 0 1"),
    (trials.tried, Desk(TWO, [1, 1]), [["row", [1, 2], 0, 1]], lambda work: (work.table_now, work.tolls, work.deeds)),
]
LISTS = {agreeing.harm: False, blocks.blocks_of: True, rings.odd_rings: True, rings.ring_lots: True, rings.ring_tolls: True,
         joining.joined_lones: True}


class WholeTest(unittest.TestCase):
    def test_same_answers_and_nothing_changed(self):
        for call, *values in CALLS:
            lists = [value for value in values if isinstance(value, list)]
            before = copy.deepcopy(lists)
            answer = call(*values)
            self.assertEqual(lists, before, call)
            again = call(*values)
            self.assertEqual(again, answer, call)
            self.assertIs(type(answer) is list, LISTS.get(call, False), call)
            if isinstance(answer, list):
                answer.clear()
                self.assertEqual(call(*values), again)

    def test_least_ratios_again(self):
        one, other = worlds.least_toll_ratio(FREE, KNOWN), worlds.least_toll_ratio(FREE, KNOWN)
        self.assertTrue(one[0] == other[0] and one[1] == other[1] and one[2] == other[2])

    def test_mixes_and_desks_keep_no_lists_that_are_handed_in(self):
        signs = [[1, 1]]
        mix = SignMix([(signs[0], 1)])
        signs[0][0] = -1
        self.assertEqual(mix.entries, (((1, 1), (1, 1)),))
        row, tolls, deed = [1, 2], [1, 1], ["column", [5, 6], 0]
        desk = Desk(TWO, tolls)
        desk.put_row(row)
        desk.back()
        desk.do(deed)
        row[0], tolls[0], deed[1][0], deed[2] = 9, 9, 9, 9
        self.assertEqual((desk.tolls, desk.deeds, desk.table_now.column(0)), ((1, 1), (("column", (5, 6), 0),), (5, 6)))

    def test_a_generator_raises_its_errors_late(self):
        generator = stretches.worlds_of(Stretches([(0, 200)]))
        self.assertEqual(error_of(first_of, generator), ("TooMany", 200))


if __name__ == "__main__":
    unittest.main()
