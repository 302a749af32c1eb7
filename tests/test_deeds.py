"""Deeds as tuples and as texts."""

import unittest

from deskers import plain_text, some_deeds
from makers import WRONG_INTEGERS, WRONG_KINDS, error_of, long_numbers
from splitnumbers.deeds import deed_from, deed_of, deed_text
from splitnumbers.numbers import Numbers
from splitnumbers.tables import Table

DEEDS = [
    (("row", (1, 0, -1), 2, 1), "row: 1 0 -1 at 2 toll 1"), (("column", (1, 0), 0), "column: 1 0 at 0"),
    (("column", (), 0), "column: at 0"), (("row", (), 0, 1), "row: at 0 toll 1"), (("drop row", 0), "drop row: 0"),
    (("drop column", 1), "drop column: 1"), (("turn row", 0), "turn row: 0"), (("turn column", 1), "turn column: 1"),
    (("number", 0, 1, 5), "number: 0 1 5"), (("toll", 0, 3), "toll: 0 3"), (("number", -1, -2, -30), "number: -1 -2 -30"),
    (("row", (-5,), -1, -7), "row: -5 at -1 toll -7"), (("toll", 10 ** 29, -10 ** 29), f"toll: {10 ** 29} {-10 ** 29}"),
]
LENGTHS = {"row": 4, "column": 3, "drop row": 2, "drop column": 2, "turn row": 2, "turn column": 2, "number": 4, "toll": 3}


def good(kind):
    """A deed of this kind, as a list."""
    return [kind] + [[1, 2] if kind in ("row", "column") and k == 0 else k for k in range(LENGTHS[kind] - 1)]


class DeedOfTest(unittest.TestCase):
    def test_deeds_as_they_are(self):
        for deed, _ in DEEDS:
            self.assertEqual(deed_of(deed), deed)
            listed = [list(entry) if isinstance(entry, tuple) else entry for entry in deed]
            told = deed_of(listed)
            self.assertEqual(told, deed)
            self.assertIs(type(told), tuple)
        self.assertEqual(deed_of(["row", Numbers([2, 4]), 0, 1]), ("row", (2, 4), 0, 1))
        self.assertEqual(deed_of(("column", Numbers([4, 2], 2), 5)), ("column", (2, 1), 5))
        self.assertEqual(deed_of(("column", Numbers([]), 5)), ("column", (), 5))

    def test_later_changes_have_no_effect(self):
        row = [1, 2]
        value = ["row", row, 0, 1]
        deed = deed_of(value)
        row.append(3)
        value[3] = 9
        self.assertEqual(deed, ("row", (1, 2), 0, 1))

    def test_kinds(self):
        for wrong in WRONG_KINDS + (Numbers([1]), "row", "drop row: 0"):
            self.assertEqual(error_of(deed_of, wrong), ("BadDeed", "kind"))
        for wrong in ("Row", "rows", "", "drop", "drop  row", "row:", None, 5, True, ("row",), ["row"], b"row", {1}, Numbers([1])):
            for value in ([wrong], [wrong, 1], (wrong, [1], 0, 1), [wrong, None, None, None, None]):
                self.assertEqual(error_of(deed_of, value), ("BadDeed", "kind"), value)
        for value in ((), []):
            self.assertEqual(error_of(deed_of, value), ("BadDeed", "kind"))

    def test_lengths(self):
        for kind, length in LENGTHS.items():
            for other in range(1, 7):
                if other != length:
                    self.assertEqual(error_of(deed_of, [kind] + [None] * (other - 1)), ("BadDeed", "length"))
            self.assertIsNone(error_of(deed_of, good(kind)))

    def test_numbers(self):
        for kind, length in LENGTHS.items():
            for at in range(1, length):
                for wrong in WRONG_INTEGERS + ("0", Numbers([1], 2)):
                    value = good(kind)
                    value[at] = wrong
                    if not (kind in ("row", "column") and at == 1 and wrong in ((1, 2), [1])):
                        self.assertEqual(error_of(deed_of, value), ("BadDeed", "number"), value)
            if kind in ("row", "column"):
                for wrong in WRONG_KINDS + ([1, None], (True,), [[1]], ("1",), Numbers([1, 2], 2), 7):
                    value = good(kind)
                    value[1] = wrong
                    self.assertEqual(error_of(deed_of, value), ("BadDeed", "number"), value)
        self.assertEqual(error_of(deed_of, ("row", (1,), None, 1)), ("BadDeed", "number"))
        self.assertEqual(error_of(deed_of, ("column", (1,), None)), ("BadDeed", "number"))


class TextsTest(unittest.TestCase):
    def test_both_ways(self):
        for deed, text in DEEDS:
            self.assertEqual(deed_text(deed), text)
            self.assertEqual(deed_from(text), deed)
        self.assertEqual(deed_text(["row", [1, 0, -1], 2, 1]), "row: 1 0 -1 at 2 toll 1")
        self.assertEqual(deed_text(["column", Numbers([3, 6]), 2]), "column: 3 6 at 2")
        self.assertEqual(deed_from("number: 0 1 -5"), ("number", 0, 1, -5))

    def test_many_deeds(self):
        texts = {}
        kinds = set()
        for seed in range(8):
            for deed, _, _ in some_deeds(120, seed * seed * 31 + 5, Table.zeros(0, 1), ()):
                text = deed_text(deed)
                kinds.add(deed[0])
                self.assertEqual(text, plain_text(deed))
                self.assertEqual(deed_from(text), deed)
                self.assertEqual(texts.setdefault(text, deed), deed)
        self.assertEqual(kinds, set(LENGTHS))

    def test_long_numbers(self):
        deed = ("row", tuple(long_numbers(12, 5)), 10 ** 30, -10 ** 30)
        self.assertEqual(deed_from(deed_text(deed)), deed)

    def test_errors_of_deeds(self):
        self.assertEqual(error_of(deed_text, None), ("BadDeed", "kind"))
        self.assertEqual(error_of(deed_text, ("toll", 0)), ("BadDeed", "length"))
        self.assertEqual(error_of(deed_text, ("toll", 0, True)), ("BadDeed", "number"))

    def test_strings_that_are_no_text(self):
        wrong = [
            "", " ", "row", "row:", "row: ", "toll", "toll:", "toll: ", "toll: 0", "toll: 0 1 2", "toll:0 1", "toll : 0 1",
            "toll: 0  1", "toll: 0 1 ", " toll: 0 1", "toll: 0 1\n", "toll: 0 1\r", "toll:\t0 1", "toll:  0 1", "Toll: 0 1",
            "toll: 00 1", "toll: 0 01", "toll: +0 1", "toll: 0 +1", "toll: -0 1", "toll: 0 --1", "toll: 0 - 1", "toll: 0 1.0",
            "toll: 0 1_0", "toll: 0 a", "toll: at 0 1", "toll: 0 toll 1", "toll: 0, 1", "tolls: 0 1", "toll 0 1", "toll: toll: 0 1",
            "row: 1 2", "row: 1 2 at 0", "row: 1 2 at 0 toll", "row: 1 2 toll 1 at 0", "row: 1 2 at toll 1", "row: at 0 1 toll 1",
            "row: 1 2 0 toll 1", "row: 1 2 at 0 1", "row: 1 at 2 at 0 toll 1", "row: at at 0 toll 1", "row: toll 1 at 0",
            "row: 1 2 at 0 toll 1 toll 1", "row: 1  2 at 0 toll 1", "row:  at 0 toll 1", "row: 1 2 At 0 toll 1", "row: () at 0 toll 1",
            "column: 1 2", "column: 1 at", "column: at", "column: 1 2 at 0 toll 1", "column: 0 at 1 2", "column:  at 0", "column: 0",
            "drop row:", "drop row: ", "drop row: 0 1", "drop  row: 0", "droprow: 0", "drop row 0", "drop: 0", "row: 0",
            "turn row: a", "turn column: 1 ", "turn column: at 1", "number: 0 1", "number: 0 1 2 3", "number: 0 1 \u0665",
            "number: 0 1 \u00b2", "number: 0 1 5 # five", "turn row:0", "(\"toll\", 0, 1)", "1. toll: 0 3", "toll: 0 3 toll: 0 3",
        ]
        for text in wrong:
            self.assertEqual(error_of(deed_from, text), ("BadText", 1, "deed"), repr(text))
        for value in (None, 5, True, b"toll: 0 1", ["toll: 0 1"], ("toll", 0, 1), Numbers([1])):
            self.assertEqual(error_of(deed_from, value), ("BadText", 1, "deed"))

    def test_one_sign_more_or_less_is_another_text_or_none(self):
        for deed, text in DEEDS:
            for at in range(len(text)):
                changes = [text[:at] + text[at + 1:]] + [text[:at] + sign + text[at:] for sign in " -0:\n"]
                for other in changes:
                    if error_of(deed_from, other) is None:
                        self.assertEqual(deed_text(deed_from(other)), other)
                    else:
                        self.assertEqual(error_of(deed_from, other), ("BadText", 1, "deed"))


if __name__ == "__main__":
    unittest.main()
