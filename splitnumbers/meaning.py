"""Mixes of roundings with the shares as means, and cheap roundings."""

from splitnumbers.kinds import refuse_many
from splitnumbers.nearest import missing_less
from splitnumbers.numbers import dot_of, integers_of, shares_of
from splitnumbers.tolls import loose_rows, refuse_failing, refuse_zero, tolls_of
from splitnumbers.weighing import mix_of_means

MOST_COLUMNS = 5


def loose_squares(couples, row, tolls):
    """For couples (rounding, tops of its miss) three times the squares in the loose rows, and what bounds their means.

    In a row that is not loose each miss is less than 1, and with the right mean its mean square is at most 1/4:
    only the loose rows must be looked at. Both are told over the squared bottom of the row of shares.
    """
    loose = loose_rows(tolls)
    squares = [tuple([3 * tops[i] * tops[i] for i in loose]) for _, tops in couples]
    return (squares, [(tolls[i] * row.bottom) * (tolls[i] * row.bottom) for i in loose])


def means_mix(table, tolls, shares):
    """A mix of roundings with the shares as means, misses less than the tolls, and small mean squares."""
    due = tolls_of(tolls, table.height)
    row = shares_of(shares, table.columns)
    refuse_zero(due)
    refuse_many(table.columns, MOST_COLUMNS)
    refuse_failing(table, due)
    couples = missing_less(table, due, row)
    squares, bounds = loose_squares(couples, row, due)
    return mix_of_means([couple[0] for couple in couples], squares, row, bounds)


def cheap_within(table, tolls, prices, shares):
    """The first of the cheapest roundings that miss each row by less than its toll."""
    due = tolls_of(tolls, table.height)
    costs = integers_of(prices, table.columns)
    row = shares_of(shares, table.columns)
    refuse_zero(due)
    refuse_failing(table, due)
    near = [rounding for rounding, _ in missing_less(table, due, row)]
    least = min([dot_of(costs, rounding) for rounding in near])
    return [rounding for rounding in near if dot_of(costs, rounding) == least][0]
