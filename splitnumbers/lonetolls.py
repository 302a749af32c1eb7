"""The toll of a row of any integers over a firm table."""

from splitnumbers.firmness import firm_halves
from splitnumbers.growing import grown_among
from splitnumbers.lones import worth_of
from splitnumbers.lonesums import firm_lones, lones_among
from splitnumbers.numbers import integers_of
from splitnumbers.pairs import pairs_among
from splitnumbers.squareparts import squares_among


def greatest_worth(lones, integers):
    """The greatest worth at a row of integers."""
    return max([worth_of(integers, signs) for signs in lones])


def lone_toll(table, row):
    """The toll of the row over the table."""
    integers = integers_of(row, table.columns)
    return greatest_worth(firm_lones(table), integers)


def lone_of_toll(table, row):
    """The first leading lone split whose worth at the row is the toll."""
    integers = integers_of(row, table.columns)
    lones = firm_lones(table)
    toll = greatest_worth(lones, integers)
    return [signs for signs in lones if worth_of(integers, signs) == toll][0]


def square_of_toll(table, row):
    """The first square part of table and row that uses the row and has the toll as size of its determinant."""
    integers = integers_of(row, table.columns)
    toll = greatest_worth(firm_lones(table), integers)
    if toll == 0:
        return None
    # A table of 12 rows is allowed: so the row does not become a row of a table here.
    rows = table.rows + (integers,)
    for square in squares_among(rows, table.columns):
        if table.height in square[0] and abs(square[2]) == toll:
            return square
    return None


def toll_gain(table, firm_row, row):
    """How much greater the toll of the row is over the table with the firm row."""
    more = integers_of(firm_row, table.columns)
    integers = integers_of(row, table.columns)
    halves = firm_halves(table)
    lones = lones_among(halves)
    grown = grown_among(lones, pairs_among(halves), more)
    return greatest_worth(grown, integers) - greatest_worth(lones, integers)
