"""Mixes of roundings with the shares as means, and cheap roundings."""

from splitnumbers.kinds import refuse_many
from splitnumbers.mixes import RoundingMix
from splitnumbers.nearest import missing_less
from splitnumbers.numbers import dot_of, integers_of, shares_of
from splitnumbers.solving import solve
from splitnumbers.tolls import loose_rows, refuse_failing, refuse_zero, tolls_of

MOST_COLUMNS = 5


def mixed(couples, row, tolls):
    """Weights for couples (rounding, tops of its miss) with small mean squares and the row of shares as means.

    In a row that is not loose each miss is less than 1, and with the right mean its mean square is at most 1/4:
    only the loose rows need a place of their own. Three times a square and what is left up to the toll's
    square, each times the squared bottom, are the integers that stand there.
    """
    loose = loose_rows(tolls)
    columns = [(1,) + rounding + tuple([3 * tops[i] * tops[i] for i in loose]) for rounding, tops in couples]
    ahead = 1 + len(row)
    for k in range(len(loose)):
        columns.append((0,) * (ahead + k) + (1,) + (0,) * (len(loose) - k - 1))
    squares = [(tolls[i] * row.bottom) * (tolls[i] * row.bottom) for i in loose]
    return solve(columns, [1] + list(row) + squares, (0,) * len(columns))[2]


def means_mix(table, tolls, shares):
    """A mix of roundings with the shares as means, misses less than the tolls, and small mean squares."""
    due = tolls_of(tolls, table.height)
    row = shares_of(shares, table.columns)
    refuse_zero(due)
    refuse_many(table.columns, MOST_COLUMNS)
    refuse_failing(table, due)
    couples = missing_less(table, due, row)
    weights = mixed(couples, row, due)
    return RoundingMix([(couple[0], weight) for couple, weight in zip(couples, weights) if weight[0] > 0])


def cheap_within(table, tolls, prices, shares):
    """The first of the cheapest roundings that miss each row by less than its toll."""
    due = tolls_of(tolls, table.height)
    costs = integers_of(prices, table.columns)
    row = shares_of(shares, table.columns)
    refuse_zero(due)
    refuse_failing(table, due)
    near = [rounding for rounding, _ in missing_less(table, due, row)]
    least = min([dot_of(costs, rounding) for rounding in near])
    return [rounding for rounding in near if dot_of(costs, rounding) == least][0]
