"""Two rows below a firm table that do not hurt one another, and tables of two rows."""

from splitnumbers.errors import NotFitting
from splitnumbers.firmness import firm_halves
from splitnumbers.lonesums import lones_among
from splitnumbers.lonetolls import greatest_worth
from splitnumbers.numbers import dot_of, integers_of
from splitnumbers.pairs import pairs_among, pairs_of
from splitnumbers.searching import half_splits
from splitnumbers.sets import sets_of_size
from splitnumbers.tolls import tolls_of
from splitnumbers.tworows import TwoRows, first_without_way


def harm(table, one, other):
    """The first pair without a way within the rows' own tolls, None if there is none."""
    row = integers_of(one, table.columns)
    more = integers_of(other, table.columns)
    halves = firm_halves(table)
    lones = lones_among(halves)
    both = TwoRows(row, more, greatest_worth(lones, row), greatest_worth(lones, more))
    return first_without_way(pairs_among(halves), both)


def product_at(pair, integers):
    """The product of the sums of a pair at a row of integers."""
    return dot_of(integers, pair[0]) * dot_of(integers, pair[1])


def agree(table, one, other):
    """Whether for no pair one row has a product of its sums above 0 and the other one below 0."""
    row = integers_of(one, table.columns)
    more = integers_of(other, table.columns)
    return all([product_at(pair, row) * product_at(pair, more) >= 0 for pair in pairs_of(table)])


def couple_failing(table, tolls):
    """The first part of one or two columns that fails, for a table of two rows, None if there is none."""
    if table.height != 2:
        raise NotFitting("rows")
    due = tolls_of(tolls, table.height)
    for part in sets_of_size(1, table.columns) + sets_of_size(2, table.columns):
        if len(half_splits(table, due, part)) == 0:
            return part
    return None
