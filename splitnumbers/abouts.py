"""Firm roundings just below and above the shares at one row of integers, and the sums of one part's splits there."""

from splitnumbers.firmness import firm_halves, ones_of
from splitnumbers.lonesums import firm_lones
from splitnumbers.numbers import dot_of, integers_of, shares_of
from splitnumbers.searching import all_splits
from splitnumbers.sets import set_of
from splitnumbers.steps import firm_ones, steps_among


def gaps_of(integers, row, roundings):
    """For each rounding of a Numbers object of shares its miss at the row of integers, times the bottom of the shares.

    The roundings keep their order.
    """
    middle = dot_of(integers, row.tops)
    return {rounding: dot_of(integers, rounding) * row.bottom - middle for rounding in roundings}


def couples_about(lones, gaps):
    """Couples of roundings that are equal or a step, with a miss of at most 0 and one of at least 0."""
    couples = [(rounding, rounding) for rounding in gaps if gaps[rounding] == 0]
    for one, other in steps_among(lones, list(gaps)):
        if gaps[one] <= 0 <= gaps[other]:
            couples.append((one, other))
        elif gaps[other] <= 0 <= gaps[one]:
            couples.append((other, one))
    return couples


def closest_about(lones, gaps):
    """The first of these couples whose sums at the row differ least."""
    return min([(gaps[end] - gaps[start], start, end) for start, end in couples_about(lones, gaps)])[1:]


def about(table, row, shares):
    """Two firm roundings, equal or a step, the row's sum of the shares between theirs, as close as there are."""
    integers = integers_of(row, table.columns)
    kept = shares_of(shares, table.columns)
    lones = firm_lones(table)
    return closest_about(lones, gaps_of(integers, kept, firm_ones(table, kept)))


def half_rounding(table, row, shares):
    """The first firm rounding with the least size of the miss at the row."""
    integers = integers_of(row, table.columns)
    kept = shares_of(shares, table.columns)
    firm_halves(table)
    gaps = gaps_of(integers, kept, firm_ones(table, kept))
    return min([(abs(gaps[rounding]), rounding) for rounding in gaps])[1]


def split_sums(table, row, part):
    """The different sums of the part's splits at the row, ascending."""
    integers = integers_of(row, table.columns)
    places = set_of(part, table.columns)
    firm_halves(table)
    splits = all_splits(table, ones_of(table), places)
    return tuple(sorted(set([dot_of(integers, signs) for signs in splits])))


def greatest_jump(table, row, part):
    """The greatest difference of two neighbouring split sums, 0 if there is just one."""
    sums = split_sums(table, row, part)
    return max([0] + [more - less for less, more in zip(sums, sums[1:])])
