"""Rows and columns that leave a firm table firm, and how the lone splits grow with them."""

from splitnumbers.errors import NotFitting
from splitnumbers.firmness import firm_halves, is_firm
from splitnumbers.kinds import refuse_many
from splitnumbers.lones import worth_of
from splitnumbers.lonesums import firm_lones, lones_among
from splitnumbers.numbers import dot_of, integers_of
from splitnumbers.pairs import pairs_among
from splitnumbers.searching import MOST_GONE_THROUGH
from splitnumbers.signs import choices_of, contrary, joined_signs

MOST_COLUMNS = 5


def goes_beside(lones, integers):
    """Whether no lone split has a worth above 1 at the row."""
    return all([worth_of(integers, signs) <= 1 for signs in lones])


def balanced(one, other, integers):
    """That one of the sum and the difference of a pair at which the row has the sum 0, for worths 1 and 1."""
    return joined_signs(one, contrary(other) if dot_of(integers, one) == dot_of(integers, other) else other)


def grown_among(lones, pairs, integers):
    """The leading lone splits, ascending, with a row below that goes in."""
    if not goes_beside(lones, integers):
        raise NotFitting("row")
    new = [balanced(one, other, integers) for one, other in pairs
           if worth_of(integers, one) == 1 and worth_of(integers, other) == 1]
    return sorted(lones + new)


def goes_in(table, row):
    """Whether the table with the row below it is firm."""
    integers = integers_of(row, table.columns)
    return goes_beside(firm_lones(table), integers)


def grown_lones(table, row):
    """The leading lone splits, ascending, of the table with the row below it."""
    integers = integers_of(row, table.columns)
    halves = firm_halves(table)
    return grown_among(lones_among(halves), pairs_among(halves), integers)


def column_goes_in(table, column):
    """Whether the table with the column behind its own ones is firm."""
    integers = integers_of(column, table.height)
    refuse_many(table.columns + 1, MOST_GONE_THROUGH)
    firm_halves(table)
    return is_firm(table.with_column(integers))


def rows_that_go_in(table):
    """All rows that go in, ascending."""
    refuse_many(table.columns, MOST_COLUMNS)
    lones = firm_lones(table)
    # Each single column is lone: so no other numbers come into question.
    return [row for row in choices_of((-1, 0, 1), table.columns) if goes_beside(lones, row)]
