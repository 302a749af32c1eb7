"""The least couples of tolls that are enough for two rows of integers below a firm table."""

from splitnumbers.firmness import firm_halves
from splitnumbers.lones import worth_of
from splitnumbers.lonesums import lones_among
from splitnumbers.lonetolls import greatest_worth
from splitnumbers.numbers import integers_of
from splitnumbers.pairs import pairs_among
from splitnumbers.pairtolls import above_among
from splitnumbers.tworows import ways_of


def first_tolls(lones, pairs, integers):
    """The first tolls, ascending, at which the second toll may change: the row's own one and worths of ways."""
    low = max(1, greatest_worth(lones, integers))
    worths = [worth_of(integers, way) for pair in pairs for way in ways_of(pair)]
    return sorted(set([low] + [worth for worth in worths if worth > low]))


def stairs_of(table, one, other):
    """The couples (h1, h2), ascending, that are enough while none is with one of them made one less."""
    row = integers_of(one, table.columns)
    more = integers_of(other, table.columns)
    halves = firm_halves(table)
    lones = lones_among(halves)
    pairs = pairs_among(halves)
    stairs = []
    for first in first_tolls(lones, pairs, row):
        second = max(1, greatest_worth(above_among(lones, pairs, row, first), more))
        if not stairs or second < stairs[-1][1]:
            stairs.append((first, second))
    return stairs


def least_even_toll(table, one, other):
    """The least integer of at least 1 that is enough as toll of both rows."""
    return min([max(couple) for couple in stairs_of(table, one, other)])
