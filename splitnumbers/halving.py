"""The mix of roundings that halving the shares step by step makes."""

from splitnumbers.errors import NotFitting
from splitnumbers.kinds import refuse_many
from splitnumbers.mixes import RoundingMix
from splitnumbers.numbers import any_shares, shares_of
from splitnumbers.roundings import doubled, halved, odd_part
from splitnumbers.searching import first_of_part
from splitnumbers.signs import contrary
from splitnumbers.tolls import refuse_failing, tolls_of

MOST_DEPTH = 8


def depth_of(shares):
    """The least k for which 2^k times the shares is whole, None if there is none."""
    bottom = any_shares(shares).bottom
    depth = bottom.bit_length() - 1
    return depth if bottom == 1 << depth else None


def weights_before(table, tolls, carry, weights):
    """Weights of the roundings of shares, from those of the roundings of their double; the sum is twice as great."""
    before = {}
    for rounding in weights:
        signs = first_of_part(table, tolls, odd_part(carry, rounding))
        for marks in (signs, contrary(signs)):
            half = halved(carry, rounding, marks)
            before[half] = before.get(half, 0) + weights[rounding]
    return before


def halves_mix(table, tolls, shares):
    """The halves mix of the shares."""
    due = tolls_of(tolls, table.height)
    double = shares_of(shares, table.columns)
    depth = depth_of(double)
    if depth is None:
        raise NotFitting("shares")
    refuse_many(depth, MOST_DEPTH)
    refuse_failing(table, due)
    carries = []
    for _ in range(depth):
        carry, double = doubled(double)
        carries.append(carry)
    weights = {double.tops: 1}
    for carry in carries[::-1]:
        weights = weights_before(table, due, carry, weights)
    return RoundingMix([(rounding, (weights[rounding], 1 << depth)) for rounding in weights])
