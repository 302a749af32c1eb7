"""The examples of the document, as printed there, and those of the README."""

import doctest
import pathlib
import unittest

README = pathlib.Path(__file__).resolve().parent.parent / "README.md"
EXAMPLES = """
>>> from splitnumbers.numbers import Numbers
>>> x = Numbers([2, 3, 0], 6) + Numbers([1, 0, 1])
>>> (x.tops, x.bottom, list(x))
((8, 3, 6), 6, [(4, 3), (1, 2), (1, 1)])

>>> from splitnumbers.tabletexts import table_from
>>> from splitnumbers.errors import BadText
>>> try:
...     table_from('table 2 2\\n1 -2\\n0 03\\n')
... except BadText as trouble:
...     (trouble.line, trouble.word)
(3, 'number')

>>> from splitnumbers.tables import Table
>>> from splitnumbers.leasts import least_tolls
>>> from splitnumbers.lones import lone_splits, toll_of_row
>>> t = Table([(1, 1), (1, -1)])
>>> (least_tolls(t), lone_splits(t, (2, 1)), toll_of_row(t, (2, 1), (3, 1)), toll_of_row(t, (2, 2), (3, 1)))
([(1, 2), (2, 1)], [(0, 1), (1, 0), (1, 1)], 4, 3)

>>> from splitnumbers.solving import solve
>>> solve([(1, 1), (1, 2), (1, 4)], (1, 3), (0, 1, 1))
('best', (1, 1), ((0, 1), (1, 2), (1, 2)), ((1, 1), (0, 1)))

>>> from splitnumbers.mixes import RoundingMix
>>> mix = RoundingMix([((1, 0), (2, 3)), ((0, 1), (1, 3))])
>>> (mix.means().tops, mix.means().bottom, mix.mean_square((1, -1), (1, 3)))
((2, 1), 3, (8, 9))

>>> from splitnumbers.tables import Table
>>> from splitnumbers.nearest import near_rounding, near_quotient
>>> from splitnumbers.halving import halves_mix
>>> t = Table([(1, 1), (1, -1)])
>>> w = [(1, 2), (1, 2)]
>>> z = near_rounding(t, (2, 1), w)
>>> (z, near_quotient(t, (2, 1), w, z), halves_mix(t, (2, 1), w).entries)
((0, 0), (1, 2), (((0, 0), (1, 2)), ((1, 1), (1, 2))))

>>> from splitnumbers.tables import Table
>>> from splitnumbers.squareparts import square_parts
>>> table = Table([(1, 2), (3, 4)])
>>> list(square_parts(table))
[((0,), (0,), 1), ((0,), (1,), 2), ((1,), (0,), 3), ((1,), (1,), 4), ((0, 1), (0, 1), -2)]

>>> from splitnumbers.tables import Table
>>> from splitnumbers.squareparts import greatest_square
>>> table = Table([(1, 2), (3, 4)])
>>> [greatest_square(table), greatest_square(table, 0)]
[((1,), (1,), 4), ((0,), (1,), 2)]

>>> from splitnumbers.determinants import determinant
>>> from splitnumbers.bounds import least_single, loose_bound, square_bound
>>> size = determinant([(1, 1, 1), (-1, 2, -1), (-1, -1, 2)])
>>> [size, least_single((2, 2, 2), (0, 1, 2)), loose_bound((2, 3, 2), (2, 1, 0)), square_bound((2, 2, 2), (0, 1, 2))]
[9, 18, (27, 2), (9, 1)]

>>> from splitnumbers.tables import Table
>>> from splitnumbers.rests import split_target, rest_of
>>> whole, shares = split_target(Table([(2, 0), (0, 3)]), (3, 4))
>>> [whole, shares.tops, shares.bottom, rest_of(Table([(2,)]), (2,), 0, (5,))]
[(1, 1), (3, 2), 6, ((2,), (1,))]

>>> from splitnumbers.tables import Table
>>> from splitnumbers.pivoting import pivoted, pivot_all
>>> table = Table([(1, 1, 1), (2, 0, -1)])
>>> last, rows, columns = pivot_all(table, (1, 3))
>>> [pivoted(table, 0, 0).rows, last.rows, rows, columns, pivoted(table, 1, 2).rows]
[((-2, -3),), ((-2, -3),), (1,), (1, 2), ((3, 1),)]

>>> from splitnumbers.tables import Table
>>> from splitnumbers.firmness import firm_lots, least_loose, unfirm_part
>>> table = Table([(1, 1), (1, -1), (2, 0)])
>>> [unfirm_part(table), unfirm_part(table.without_row(2)), firm_lots(table), least_loose(table)]
[(0,), (0, 1), [(0,), (1,)], 2]

>>> from splitnumbers.tables import Table
>>> from splitnumbers.lonesums import firm_lones, lone_pieces, lone_way, ways_free
>>> table = Table([(1, 1, 1)])
>>> [firm_lones(table), lone_way(table, (2, 0)), ways_free(table, (0, 1, 2)), lone_pieces(Table.zeros(0, 2), (1, -1))]
[[(0, 0, 1), (0, 1, -1), (0, 1, 0), (1, -1, 0), (1, 0, -1), (1, 0, 0)], (1, 0, -1), 3, ((0, -1), (1, 0))]

>>> from splitnumbers.tables import Table
>>> from splitnumbers.steps import steps_of, walk
>>> table = Table.zeros(0, 2)
>>> half = ((1, 2), (1, 2))
>>> [steps_of(table, half), walk(table, half, (0, 0), [1, 1])]
[[((0, 0), (0, 1)), ((0, 0), (1, 0)), ((0, 1), (1, 1)), ((1, 0), (1, 1))], [(0, 0), (0, 1), (1, 1)]]

>>> from splitnumbers.tables import Table
>>> from splitnumbers.pairs import pairs_of
>>> from splitnumbers.growing import grown_lones, rows_that_go_in
>>> table = Table([(1, 1, 0)])
>>> [pairs_of(table), grown_lones(table, (1, 0, 1)), rows_that_go_in(Table([(1, 1)]))[:3]]
[[((0, 1, 0), (0, 0, 1)), ((1, -1, 0), (0, 0, 1)), ((1, 0, 0), (0, 0, 1))], [(0, 0, 1), (0, 1, 0), (1, -1, -1), (1, -1, 0), (1, 0, -1), (1, 0, 0)], [(-1, -1), (-1, 0), (0, -1)]]

>>> from splitnumbers.tables import Table
>>> from splitnumbers.lonetolls import lone_toll, lone_of_toll, square_of_toll
>>> from splitnumbers.failing import failing_lones
>>> table = Table([(1, 1, 1)])
>>> row = (2, -1, 0)
>>> [lone_toll(table, row), lone_of_toll(table, row), square_of_toll(table, row), failing_lones(table, row, 2)]
[3, (1, -1, 0), ((0, 1), (0, 1), -3), [(0, 1)]]

>>> from splitnumbers.tables import Table
>>> from splitnumbers.abouts import about, half_rounding, split_sums
>>> table = Table([(1, 1, 1)])
>>> row = (2, -1, 0)
>>> shares = [(1, 2), (1, 2), 0]
>>> [about(table, row, shares), half_rounding(table, row, shares), split_sums(table, row, [0, 1])]
[((0, 1, 0), (1, 0, 0)), (0, 1, 0), (-3, 3)]

>>> from splitnumbers.tables import Table
>>> from splitnumbers.pricesteps import price_step, step_price, cheap_rounding
>>> table = Table([(1, 1, 1)])
>>> row = (2, -1, 0)
>>> prices = (1, 5, 0)
>>> shares = [(1, 2), (1, 2), 0]
>>> [price_step(table, row, prices, shares), step_price(table, row, prices, shares), cheap_rounding(table, row, prices, shares)]
[((0, 1, 0), (1, 0, 0), (1, 2)), (3, 1), (1, 0, 0)]

>>> from splitnumbers.tables import Table
>>> from splitnumbers.pairtolls import second_toll, above_lones
>>> from splitnumbers.stairs import stairs_of, least_even_toll
>>> table = Table.zeros(0, 2)
>>> one = (3, 3)
>>> other = (3, -3)
>>> [second_toll(table, one, 3, other), second_toll(table, one, 6, other), above_lones(table, one, 3), stairs_of(table, one, other), least_even_toll(table, one, other)]
[6, 3, [(0, 1), (1, -1), (1, 0)], [(3, 6), (6, 3)], 6]

>>> from splitnumbers.tables import Table
>>> from splitnumbers.triangles import triangle_of, half_both
>>> table = Table.zeros(0, 2)
>>> one = (3, 3)
>>> other = (3, -3)
>>> shares = [(1, 3), (1, 3)]
>>> [triangle_of(table, one, other, 3, 6, (1, 1), shares).entries, half_both(table, one, other, 3, 6, shares)]
[(((0, 0), (1, 3)), ((0, 1), (1, 3)), ((1, 0), (1, 3))), (0, 1)]

>>> from splitnumbers.tables import Table
>>> from splitnumbers.agreeing import harm, agree, couple_failing
>>> from splitnumbers.examples3 import mix_table
>>> table = Table.zeros(0, 2)
>>> [harm(table, (3, 3), (3, -3)), agree(table, (3, 3), (2, 0)), couple_failing(mix_table(), (5, 5)), couple_failing(mix_table(), (3, 6))]
[((1, 0), (0, 1)), True, (0, 1), None]

>>> from splitnumbers.tables import Table
>>> from splitnumbers.joining import joined_lones
>>> couple = Table([(1, 1)])
>>> joined_lones(couple, 1, couple, 0, (1,), (1,))
[(0, 0, 1), (0, 1, -1), (0, 1, 0), (1, -1, 0), (1, -1, 1), (1, 0, 0)]

>>> from splitnumbers.tables import Table
>>> from splitnumbers.rings import odd_rings, ring_tolls
>>> ring = Table([(1, 0, 1), (1, 1, 0), (0, 1, 1)])
>>> (odd_rings(ring), ring_tolls(ring))
([(0, 1, 2)], [(1, 1, 2), (1, 2, 1), (2, 1, 1)])

>>> from splitnumbers.tables import Table
>>> from splitnumbers.loosecolumns import column_failing, column_sides
>>> table = Table([(1,), (1,)])
>>> at_ones = column_failing(table, (1, -1), (1, 1))
>>> (at_ones, column_sides(table, (1, -1), (1, 2), (0,), (1, -1)))
(((0,), (1, -1)), (2, 2))

>>> from splitnumbers.mixes import SignMix
>>> from splitnumbers.squaring import balanced
>>> mix = SignMix([((1, 1), (2, 3)), ((1, -1), (1, 3))])
>>> balanced(mix).entries
(((-1, -1), (1, 3)), ((-1, 1), (1, 6)), ((1, -1), (1, 6)), ((1, 1), (1, 3)))

>>> from splitnumbers.tables import Table
>>> from splitnumbers.squaring import mean_squares
>>> from splitnumbers.games import even_failing, even_serves, part_game
>>> table = Table([(1, 1), (1, -1)])
>>> value, mix, weights = part_game(table, (0, 1))
>>> (value, mean_squares(table, mix), weights, even_serves(table, (1, 3)), even_failing(table, (1, 2)))
((2, 1), ((2, 1), (2, 1)), ((1, 2), (1, 2)), True, (0, 1))

>>> from splitnumbers.evenmixes import square_bounds
>>> square_bounds((3, (1, 2)), 2)
((15, 16), (5, 32))

>>> from splitnumbers.tables import Table
>>> from splitnumbers.stretches import Stretches
>>> from splitnumbers.worlds import greatest_toll, world_with
>>> table = Table.zeros(0, 2)
>>> known = Stretches([(1, 3), (-2, 0)])
>>> [greatest_toll(table, known), world_with(table, known, 1), world_with(table, known, 2)]
[(3, (3, -2)), (1, -1), (1, -2)]

>>> from splitnumbers.tables import Table
>>> from splitnumbers.stretches import Stretches
>>> from splitnumbers.worlds import serves_all, safe_split
>>> table = Table.zeros(0, 2)
>>> known = Stretches([(1, 1), (-1, 1)])
>>> [serves_all(table, known, 1), safe_split(table, known, 1, (0, 1)), safe_split(table, known, 2, (0, 1))]
[True, None, (-1, -1)]

>>> from splitnumbers.tables import Table
>>> from splitnumbers.budgets import cheapest_within, least_price, price_corners
>>> table = Table.zeros(0, 2)
>>> half = ((1, 2), (1, 2))
>>> corners = price_corners(table, (1, 2), (1, -1), half)
>>> [corners, least_price(table, (1, 2), (1, -1), half, 1), cheapest_within(table, (1, 2), (1, -1), half, 1)]
[((0, 0), (2, -1), (3, 0)), (-1, 2), (0, 0)]

>>> from splitnumbers.deeds import deed_from, deed_text
>>> [deed_text(["row", [1, 0, -1], 2, 1]), deed_text(("column", (), 0)), deed_from("number: 0 1 -5")]
['row: 1 0 -1 at 2 toll 1', 'column: at 0', ('number', 0, 1, -5)]

>>> from splitnumbers.tables import Table
>>> from splitnumbers.desks import Desk
>>> desk = Desk(Table([(1, 1), (1, -1)]), (2, 1), name="two")
>>> before = [desk.serving(), desk.lones(), desk.room_for((3, 1))]
>>> desk.set_toll(1, 2)
>>> [before, desk.room_for((3, 1)), desk.back(), desk.tolls]
[[True, [(0, 1), (1, 0), (1, 1)], 4], 3, ('toll', 1, 2), (2, 1)]

>>> from splitnumbers.tables import Table
>>> from splitnumbers.desks import Desk
>>> from splitnumbers.listings import deeds_listing, listing
>>> desk = Desk(Table([(1, 1), (1, -1)]), (1, 1))
>>> first = listing(desk)
>>> desk.set_toll(0, 2)
>>> [first, listing(desk), deeds_listing(desk)]
['desk\\n 1  1 | 1\\n 1 -1 | 1\\nfails at 0 1\\n', 'desk\\n 1  1 | 2\\n 1 -1 | 1\\nserves\\nlone 3\\n', '1. toll: 0 2\\n']
"""


def readme_lines():
    """The lines of the README's Python code."""
    blocks = README.read_text().split("```python\n")[1:]
    return [line for block in blocks for line in block.split("```")[0].splitlines()]


class ExamplesTest(unittest.TestCase):
    def test_document(self):
        test = doctest.DocTestParser().get_doctest(EXAMPLES, {}, "document", None, 0)
        told = []
        results = doctest.DocTestRunner(verbose=False).run(test, out=told.append)
        self.assertEqual(results.failed, 0, "".join(told))
        self.assertEqual(results.attempted, 158)

    def test_readme(self):
        names = {}
        shown = 0
        for line in readme_lines():
            code, _, answer = line.partition("  # ")
            if not answer:
                exec(code, names)
                continue
            # Behind an answer that is no string a remark may stand.
            expected = answer.strip() if answer.strip().startswith("'") else answer.strip().split(": ")[0]
            self.assertEqual(repr(eval(code.strip(), names)), expected, line)
            shown += 1
        self.assertEqual(shown, 24)


if __name__ == "__main__":
    unittest.main()
