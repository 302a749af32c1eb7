"""Firm roundings of firm tables, and the steps and walks between them."""

from splitnumbers.errors import BadRounding, NotFitting
from splitnumbers.firmness import firm_halves, ones_of
from splitnumbers.kinds import wrong_integer
from splitnumbers.lonesums import firm_lones, pieces_of
from splitnumbers.numbers import of_length, shares_of
from splitnumbers.roundings import firm_roundings, is_firm_rounding, rounding_of_row
from splitnumbers.signs import made_leading


def zeros_and_ones(value, count):
    """A list or tuple of count integers 0 and 1, as a tuple."""
    wrong = wrong_integer(value, 0, 1)
    if wrong is not None:
        raise BadRounding(wrong)
    return of_length(tuple(value), count)


def sum_of(one, other):
    """The sum of two rows of integers."""
    return tuple([number + more for number, more in zip(one, other)])


def difference(one, other):
    """The row other less one."""
    return tuple([more - number for number, more in zip(one, other)])


def is_step(table, one, other):
    """Whether other less one is a lone split."""
    start = zeros_and_ones(one, table.columns)
    end = zeros_and_ones(other, table.columns)
    return made_leading(difference(start, end)) in firm_lones(table)


def difference_pieces(table, shares, one, other):
    """Lone splits, ascending, that lead from one firm rounding to the other in any order."""
    row = shares_of(shares, table.columns)
    start = rounding_of_row(one, row)
    end = rounding_of_row(other, row)
    firm_halves(table)
    ones = ones_of(table)
    if not is_firm_rounding(table, ones, row, start):
        raise NotFitting("one")
    if not is_firm_rounding(table, ones, row, end):
        raise NotFitting("other")
    return pieces_of(table, difference(start, end))


def firm_ones(table, row):
    """The firm roundings of a Numbers object of shares at tolls 1, ascending."""
    return firm_roundings(table, ones_of(table), row)


def steps_among(lones, roundings):
    """The steps (z, z') among ascending roundings, by ascending leading lone splits; ascending."""
    known = {one: True for one in roundings}
    steps = []
    for rounding in roundings:
        # What a leading lone split leads to stands behind, and greater ones lead further.
        reached = [sum_of(rounding, signs) for signs in lones]
        steps.extend([(rounding, further) for further in reached if further in known])
    return steps


def steps_of(table, shares):
    """All steps of the shares, the lesser rounding first, ascending."""
    row = shares_of(shares, table.columns)
    lones = firm_lones(table)
    return steps_among(lones, firm_ones(table, row))


def walk(table, shares, one, other):
    """The firm roundings from one to the other, each next one a step on."""
    pieces = difference_pieces(table, shares, one, other)
    rounding = tuple(one)
    way = [rounding]
    for piece in pieces:
        rounding = sum_of(rounding, piece)
        way.append(rounding)
    return way
