"""Mixes of firm roundings with small misses at one row of integers."""

from splitnumbers.abouts import closest_about, gaps_of
from splitnumbers.firmness import firm_halves
from splitnumbers.lonesums import firm_lones
from splitnumbers.lonetolls import greatest_worth
from splitnumbers.mixes import RoundingMix
from splitnumbers.numbers import integers_of, shares_of
from splitnumbers.pricesteps import below_toll, crossing
from splitnumbers.ratios import lowest, ratio_less
from splitnumbers.steps import firm_ones
from splitnumbers.weighing import mix_of_means


def row_mix(table, row, shares):
    """A mix with the shares as means, misses below the row's toll h and a mean square there of at most h * h / 4."""
    integers = integers_of(row, table.columns)
    kept = shares_of(shares, table.columns)
    toll = greatest_worth(firm_lones(table), integers) * kept.bottom
    gaps = gaps_of(integers, kept, firm_ones(table, kept))
    near = below_toll(gaps, toll)
    # Misses and toll stand over the bottom of the shares; a quarter of the squared toll is allowed.
    squares = [(4 * gaps[rounding] * gaps[rounding],) for rounding in near]
    return mix_of_means(near, squares, kept, [toll * toll])


def step_mix(table, row, shares):
    """The mix of the two roundings that about tells, or of the only one, that keeps the row."""
    integers = integers_of(row, table.columns)
    kept = shares_of(shares, table.columns)
    lones = firm_lones(table)
    gaps = gaps_of(integers, kept, firm_ones(table, kept))
    start, end = closest_about(lones, gaps)
    if start == end:
        return RoundingMix([(start, 1)])
    far = crossing(gaps, start, end)
    return RoundingMix([(start, ratio_less(1, far)), (end, far)])


def least_spread(table, row, shares):
    """The least mean square of the miss at the row among mixes of firm roundings that keep the row."""
    integers = integers_of(row, table.columns)
    kept = shares_of(shares, table.columns)
    firm_halves(table)
    gaps = list(gaps_of(integers, kept, firm_ones(table, kept)).values())
    low = max([gap for gap in gaps if gap <= 0])
    high = min([gap for gap in gaps if gap >= 0])
    return lowest(-low * high, kept.bottom * kept.bottom)
