"""Roundings that are as near to the shares as possible, measured by the tolls."""

from math import lcm

from splitnumbers.kinds import number_from
from splitnumbers.numbers import dot_of, shares_of
from splitnumbers.ratios import is_greater, lowest
from splitnumbers.roundings import keeps_firm, miss_tops, rounding_of_row, roundings_of
from splitnumbers.sets import set_of
from splitnumbers.tolls import loose_rows, refuse_failing, refuse_zero, tolls_of


def cut_of(count):
    """The least k with 2^k above the count."""
    return number_from(count, 0, "count").bit_length()


def near_bound(tolls):
    """1 - 1/2^k, where k is the cut of the loose count."""
    power = 1 << cut_of(len(loose_rows(tolls)))
    return (power - 1, power)


def quotient_over(tops, bottom, tolls, rows):
    """The greatest size of a miss, as tops over a bottom, divided by the toll, over some rows with tolls above 0."""
    common = 1
    for i in rows:
        common = lcm(common, tolls[i])
    sizes = [abs(tops[i]) * (common // tolls[i]) for i in rows]
    return lowest(max([0] + sizes), bottom * common)


def near_quotient(table, tolls, shares, rounding):
    """The greatest size of the rounding's miss divided by the toll, over the loose rows."""
    due = tolls_of(tolls, table.height)
    row = shares_of(shares, table.columns)
    tops = miss_tops(table, row, rounding_of_row(rounding, row))
    return quotient_over(tops, row.bottom, due, loose_rows(due))


def with_misses(table, row):
    """Couples of all roundings of a Numbers object of shares, ascending, and the tops of their misses."""
    return [(rounding, miss_tops(table, row, rounding)) for rounding in roundings_of(row)]


def missing_less(table, tolls, row):
    """Those of these couples whose misses are less than the tolls in every row."""
    return [(rounding, tops) for rounding, tops in with_misses(table, row)
            if all([abs(top) < toll * row.bottom for top, toll in zip(tops, tolls)])]


def first_nearest(couples, bottom, tolls, rows):
    """The first rounding of the couples whose quotient over the rows is least."""
    nearest = None
    least = None
    for rounding, tops in couples:
        quotient = quotient_over(tops, bottom, tolls, rows)
        if least is None or is_greater(least, quotient):
            nearest = rounding
            least = quotient
    return nearest


def near_rounding(table, tolls, shares):
    """The first firm rounding with the least near quotient."""
    due = tolls_of(tolls, table.height)
    row = shares_of(shares, table.columns)
    refuse_failing(table, due)
    firm = [(rounding, tops) for rounding, tops in with_misses(table, row) if keeps_firm(tops, due, row.bottom)]
    return first_nearest(firm, row.bottom, due, loose_rows(due))


def near_on(table, tolls, shares, rows):
    """Of the roundings that miss each row by less than its toll, the first that is nearest in some rows."""
    due = tolls_of(tolls, table.height)
    row = shares_of(shares, table.columns)
    chosen = set_of(rows, table.height)
    refuse_zero(due)
    refuse_failing(table, due)
    return first_nearest(missing_less(table, due, row), row.bottom, due, chosen)


def whole_rows(table, shares):
    """The set of the rows whose sums of the shares are integers."""
    row = shares_of(shares, table.columns)
    return tuple([i for i, numbers in enumerate(table.rows) if dot_of(numbers, row.tops) % row.bottom == 0])
