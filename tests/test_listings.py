"""Desks and their deeds as they are printed."""

import unittest

from deskers import plain_text, some_deeds
from makers import error_of, long_numbers, plain_failing, some_numbers, some_tables
from splitnumbers.desks import Desk
from splitnumbers.listings import deeds_listing, listing
from splitnumbers.lones import lone_splits
from splitnumbers.tables import Table

TWO = Table([(1, 1), (1, -1)])


def plain_listing(desk):
    table = desk.table_now
    lines = ["desk " + desk.name if desk.name else "desk"]
    width = max([len(str(number)) for row in table.rows for number in row], default=0)
    for row, toll in zip(table.rows, desk.tolls):
        lines.append(" ".join(f"{number:>{width}}" for number in row) + f" | {toll}")
    failing = plain_failing(table, desk.tolls)
    if failing:
        lines.append("fails at " + " ".join(map(str, failing[0])))
    else:
        lines += ["serves", f"lone {len(lone_splits(table, desk.tolls))}"]
    return "\n".join(lines) + "\n"


class ListingTest(unittest.TestCase):
    def test_small_cases(self):
        desk = Desk(TWO, (1, 1))
        self.assertEqual(listing(desk), "desk\n 1  1 | 1\n 1 -1 | 1\nfails at 0 1\n")
        desk.set_toll(0, 2)
        self.assertEqual(listing(desk), "desk\n 1  1 | 2\n 1 -1 | 1\nserves\nlone 3\n")
        desk.name = "two"
        self.assertEqual(listing(desk), "desk two\n 1  1 | 2\n 1 -1 | 1\nserves\nlone 3\n")
        self.assertEqual(listing(Desk(Table.zeros(0, 2), (), name=" a b ")), "desk  a b \nserves\nlone 2\n")
        self.assertEqual(listing(Desk(Table([(5,)]), (10,), name="")), "desk\n5 | 10\nserves\nlone 1\n")
        self.assertEqual(listing(Desk(Table([(5, -100, 0), (12, 3, 4)]), (7, 0))),
                         "desk\n   5 -100    0 | 7\n  12    3    4 | 0\nfails at 0\n")
        self.assertEqual(listing(Desk(Table([(2, 0, 3)]), (2,))), "desk\n2 0 3 | 2\nfails at 2\n")

    def test_many_desks(self):
        for k, table in enumerate(some_tables(60, 511, (0, 4), (1, 4), 12)):
            desk = Desk(table, some_numbers(table.height, 512 + 31 * k * k, 5, 30), name="ab"[:k % 3])
            self.assertEqual(listing(desk), plain_listing(desk))
        desk = Desk(Table([long_numbers(3, 1), long_numbers(3, 2)]), (10 ** 31, 0))
        self.assertEqual(listing(desk), plain_listing(desk))

    def test_errors(self):
        self.assertEqual(error_of(listing, Desk(Table.zeros(1, 8), (1,))), ("TooMany", 7))
        self.assertIsNone(error_of(listing, Desk(Table.zeros(12, 7), (0,) * 12)))


class DeedsListingTest(unittest.TestCase):
    def test_small_cases(self):
        desk = Desk(TWO, (1, 1))
        self.assertEqual(deeds_listing(desk), "")
        desk.set_toll(0, 2)
        self.assertEqual(deeds_listing(desk), "1. toll: 0 2\n")
        desk.put_row((3, -1), 0)
        desk.drop_column(1)
        self.assertEqual(deeds_listing(desk), "1. toll: 0 2\n2. row: 3 -1 at 0 toll 1\n3. drop column: 1\n")
        desk.back_to(0)
        self.assertEqual(deeds_listing(desk), "")
        # A table of any number of columns.
        wide = Desk(Table.zeros(1, 12), (1,))
        wide.turn_column(11)
        self.assertEqual(deeds_listing(wide), "1. turn column: 11\n")

    def test_many_deeds(self):
        desk = Desk(TWO, (2, 1))
        lines = []
        for k, (deed, _, _) in enumerate(some_deeds(150, 513, TWO, (2, 1))):
            desk.do(deed)
            lines.append(f"{k + 1}. {plain_text(deed)}\n")
        self.assertEqual(deeds_listing(desk), "".join(lines))


if __name__ == "__main__":
    unittest.main()
