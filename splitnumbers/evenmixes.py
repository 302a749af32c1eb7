"""Mixes of roundings with small mean squares, for squares that even-serve a table."""

from splitnumbers.errors import NotFitting, NotMet
from splitnumbers.games import even_serves
from splitnumbers.halving import depth_of
from splitnumbers.kinds import number_from, refuse_many
from splitnumbers.numbers import shares_of
from splitnumbers.ratios import lowest, ratio_times
from splitnumbers.roundings import miss_tops, roundings_of
from splitnumbers.squaring import any_squares, squares_of
from splitnumbers.weighing import mix_of_means

MOST_COLUMNS = 5
MOST_DEPTH = 4


def bounds_at(squares, depth):
    """(1 - 1/4^depth) / 3 of each of the squares."""
    power = 1 << (2 * depth)
    return [lowest(top * (power - 1), bottom * 3 * power) for top, bottom in squares]


def square_bounds(squares, depth):
    """The bounds of the mean squares of misses, for any number of squares."""
    rooms = any_squares(squares)
    return tuple(bounds_at(rooms, number_from(depth, 0, "depth")))


def even_mix(table, squares, shares):
    """A mix of roundings with the shares as means whose misses have mean squares of at most the bounds."""
    rooms = squares_of(squares, table.height)
    row = shares_of(shares, table.columns)
    refuse_many(table.columns, MOST_COLUMNS)
    depth = depth_of(row)
    if depth is None:
        raise NotFitting("shares")
    refuse_many(depth, MOST_DEPTH)
    if not even_serves(table, rooms):
        raise NotMet("squares")
    roundings = list(roundings_of(row))
    squared = [tuple([top * top for top in miss_tops(table, row, rounding)]) for rounding in roundings]
    # The tops of the misses stand over the bottom of the shares.
    bounds = [ratio_times(bound, row.bottom * row.bottom) for bound in bounds_at(rooms, depth)]
    return mix_of_means(roundings, squared, row, bounds)
