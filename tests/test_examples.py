"""The examples of the document, as printed there, and those of the README."""

import doctest
import pathlib
import unittest

README = pathlib.Path(__file__).resolve().parent.parent / "README.md"
EXAMPLES = """
>>> from splitnumbers.numbers import Numbers
>>> x = Numbers([2, 3, 0], 6) + Numbers([1, 0, 1])
>>> (x.tops, x.bottom, list(x))
((8, 3, 6), 6, [(4, 3), (1, 2), (1, 1)])

>>> from splitnumbers.tabletexts import table_from
>>> from splitnumbers.errors import BadText
>>> try:
...     table_from('table 2 2\\n1 -2\\n0 03\\n')
... except BadText as trouble:
...     (trouble.line, trouble.word)
(3, 'number')

>>> from splitnumbers.tables import Table
>>> from splitnumbers.leasts import least_tolls
>>> from splitnumbers.lones import lone_splits, toll_of_row
>>> t = Table([(1, 1), (1, -1)])
>>> (least_tolls(t), lone_splits(t, (2, 1)), toll_of_row(t, (2, 1), (3, 1)), toll_of_row(t, (2, 2), (3, 1)))
([(1, 2), (2, 1)], [(0, 1), (1, 0), (1, 1)], 4, 3)

>>> from splitnumbers.solving import solve
>>> solve([(1, 1), (1, 2), (1, 4)], (1, 3), (0, 1, 1))
('best', (1, 1), ((0, 1), (1, 2), (1, 2)), ((1, 1), (0, 1)))

>>> from splitnumbers.mixes import RoundingMix
>>> mix = RoundingMix([((1, 0), (2, 3)), ((0, 1), (1, 3))])
>>> (mix.means().tops, mix.means().bottom, mix.mean_square((1, -1), (1, 3)))
((2, 1), 3, (8, 9))

>>> from splitnumbers.tables import Table
>>> from splitnumbers.nearest import near_rounding, near_quotient
>>> from splitnumbers.halving import halves_mix
>>> t = Table([(1, 1), (1, -1)])
>>> w = [(1, 2), (1, 2)]
>>> z = near_rounding(t, (2, 1), w)
>>> (z, near_quotient(t, (2, 1), w, z), halves_mix(t, (2, 1), w).entries)
((0, 0), (1, 2), (((0, 0), (1, 2)), ((1, 1), (1, 2))))
"""


def readme_lines():
    """The lines of the README's Python code."""
    blocks = README.read_text().split("```python\n")[1:]
    return [line for block in blocks for line in block.split("```")[0].splitlines()]


class ExamplesTest(unittest.TestCase):
    def test_document(self):
        test = doctest.DocTestParser().get_doctest(EXAMPLES, {}, "document", None, 0)
        told = []
        results = doctest.DocTestRunner(verbose=False).run(test, out=told.append)
        self.assertEqual(results.failed, 0, "".join(told))
        self.assertEqual(results.attempted, 23)

    def test_readme(self):
        names = {}
        shown = 0
        for line in readme_lines():
            code, _, answer = line.partition("  # ")
            if not answer:
                exec(code, names)
                continue
            expected = answer.strip().split(": ")[0]
            self.assertEqual(repr(eval(code.strip(), names)), expected, line)
            shown += 1
        self.assertEqual(shown, 6)


if __name__ == "__main__":
    unittest.main()
