"""Weights for given tuples, so that means are right and mean squares are small."""

from splitnumbers.mixes import RoundingMix
from splitnumbers.solving import solve_within


def weighed(tuples, weights):
    """The entries of a mix: each tuple that has a weight above 0, with it."""
    return [(numbers, weight) for numbers, weight in zip(tuples, weights) if weight[0] > 0]


def mix_of_means(roundings, squares, row, bounds):
    """A mix of the roundings with the row of shares as means, the mean of each square at most its bound.

    squares holds a tuple of integers for each rounding. The document says of each such mix that there is one.
    """
    columns = [(1,) + rounding + sizes for rounding, sizes in zip(roundings, squares)]
    weights = solve_within(columns, len(bounds), [1] + list(row) + bounds, [0] * len(columns))[2]
    return RoundingMix(weighed(roundings, weights))
