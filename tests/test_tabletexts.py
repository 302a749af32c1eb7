"""Texts of tables: written, read back, and each way in which a text is wrong."""

import unittest

from makers import error_of, some_tables
from splitnumbers.errors import BadNumber, BadText
from splitnumbers.tables import Table
from splitnumbers.tabletexts import table_from, table_text


def cause_of(text):
    try:
        table_from(text)
    except BadText as trouble:
        return trouble.__cause__
    return "no error"


class TextTest(unittest.TestCase):
    def test_written(self):
        self.assertEqual(table_text(Table([(1, -2), (0, 30)])), "table 2 2\n1 -2\n0 30\n")
        self.assertEqual(table_text(Table.zeros(0, 12)), "table 0 12\n")

    def test_read(self):
        self.assertEqual(table_from("table 2 2\n1 -2\n0 30\n"), Table([(1, -2), (0, 30)]))
        self.assertEqual(table_from("table 0 3\n"), Table.zeros(0, 3))
        self.assertEqual(table_from("table 1 1\n0\n"), Table([(0,)]))

    def test_read_back(self):
        for table in some_tables(300, heights=(0, 12), widths=(1, 12), greatest=120):
            self.assertEqual(table_from(table_text(table)), table)
        big = Table([(10 ** 29, -10 ** 29)])
        self.assertEqual(table_from(table_text(big)), big)

    def test_example(self):
        self.assertEqual(error_of(table_from, "table 2 2\n1 -2\n0 03\n"), ("BadText", 3, "number"))

    def test_head(self):
        for text in (None, 5, b"table 0 1\n", ["table 0 1\n"], True, "", "table 0 1", "\n", " table 0 1\n",
                     "table 0 1 \n", "table  0 1\n", "table 0\n", "table 0 1 2\n", "Table 0 1\n", "table 00 1\n",
                     "table 0 01\n", "table +0 1\n", "table -0 1\n", "table 0 x\n", "table 0 1\r\n", "table\t0 1\n",
                     "table 0 " + "1" * 601 + "\n", "table 1.0 1\n", "table\n0 1\n"):
            self.assertEqual(error_of(table_from, text), ("BadText", 1, "head"), text)
            self.assertIsNone(cause_of(text))

    def test_head_with_a_cause(self):
        for text, word in (("table 13 1\n", "height"), ("table -1 1\n", "height"), ("table 13 0\n", "height"),
                           ("table 0 0\n", "columns"), ("table 0 13\n", "columns"), ("table 12 -1\n", "columns"),
                           ("table " + "9" * 600 + " 0\n", "height"), ("table -" + "9" * 600 + " 1\n", "height"),
                           ("table 1 " + "9" * 600 + "\n", "columns")):
            self.assertEqual(error_of(table_from, text), ("BadText", 1, "head"))
            cause = cause_of(text)
            self.assertIsInstance(cause, BadNumber)
            self.assertEqual(cause.word, word)

    def test_missing_rows(self):
        self.assertEqual(error_of(table_from, "table 2 1\n"), ("BadText", 2, "rows"))
        self.assertEqual(error_of(table_from, "table 2 1\n5\n"), ("BadText", 3, "rows"))
        self.assertEqual(error_of(table_from, "table 2 1\n5\n6"), ("BadText", 3, "rows"))
        self.assertEqual(error_of(table_from, "table 2 1\nx"), ("BadText", 2, "rows"))
        self.assertEqual(error_of(table_from, "table 2 1\n5 x\n"), ("BadText", 2, "row"))

    def test_number_of_words(self):
        self.assertEqual(error_of(table_from, "table 1 2\n5\n"), ("BadText", 2, "row"))
        self.assertEqual(error_of(table_from, "table 1 2\n5 6 x\n"), ("BadText", 2, "row"))
        self.assertEqual(error_of(table_from, "table 1 2\n\n"), ("BadText", 2, "row"))
        self.assertEqual(error_of(table_from, "table 1 2\n5  6\n"), ("BadText", 2, "row"))
        self.assertEqual(error_of(table_from, "table 2 2\n1 2\n5 6 \n"), ("BadText", 3, "row"))

    def test_numerals(self):
        for word in ("", "x", "01", "00", "-0", "-", "--1", "-01", "+1", "1.0", "1e3", "1_0", "\t1", "1\r", "\u0661",
                     "\u00b2", "1" * 601, "-" + "1" * 601, "0x1", "1-"):
            self.assertEqual(error_of(table_from, "table 2 1\n0\n" + word + "\n"), ("BadText", 3, "number"), word)
        # An empty line is one empty word, two spaces enclose another one.
        self.assertEqual(error_of(table_from, "table 1 1\n\n"), ("BadText", 2, "number"))
        self.assertEqual(error_of(table_from, "table 1 3\n1  2\n"), ("BadText", 2, "number"))
        self.assertEqual(error_of(table_from, "table 1 2\n 1\n"), ("BadText", 2, "number"))
        for word in ("0", "7", "-7", "10", "1" * 600, "-" + "9" * 600):
            self.assertEqual(table_from("table 1 1\n" + word + "\n").rows, ((int(word),),))

    def test_line_by_line(self):
        self.assertEqual(error_of(table_from, "table 3 1\nx\n1 2\n"), ("BadText", 2, "number"))
        self.assertEqual(error_of(table_from, "table 3 1\n1\n1 2\nx\n7\n"), ("BadText", 3, "row"))

    def test_what_follows(self):
        for rest in ("\n", " ", "1\n", "x"):
            self.assertEqual(error_of(table_from, "table 1 1\n5\n" + rest), ("BadText", 3, "rows"))
            self.assertEqual(error_of(table_from, "table 0 1\n" + rest), ("BadText", 2, "rows"))
        self.assertEqual(error_of(table_from, "table 1 1\nx\n\n"), ("BadText", 2, "number"))


if __name__ == "__main__":
    unittest.main()
