"""Tolls of two rows of integers below a firm table: its pairs decide which ones are enough."""

from splitnumbers.errors import NotMet
from splitnumbers.firmness import firm_halves
from splitnumbers.kinds import number_from
from splitnumbers.lones import worth_of
from splitnumbers.lonesums import lones_among
from splitnumbers.lonetolls import greatest_worth
from splitnumbers.numbers import integers_of
from splitnumbers.pairs import pairs_among
from splitnumbers.tworows import first_without_way, two_rows, ways_of


def ways_within(pair, integers, toll):
    """The ways of a pair with a worth of at most the toll at the row."""
    return [way for way in ways_of(pair) if worth_of(integers, way) <= toll]


def above_among(lones, pairs, integers, first):
    """The lone splits, and of each pair of which just one way is within the toll that way; ascending."""
    near = [ways_within(pair, integers, first) for pair in pairs]
    return sorted(lones + [ways[0] for ways in near if len(ways) == 1])


def refuse_low(toll, lones, integers):
    """Nothing, or NotMet for a first toll below that of the row."""
    if toll < greatest_worth(lones, integers):
        raise NotMet("first")


def pair_serves(table, one, other, first, second):
    """Whether the tolls 1, .., 1 and these two serve the table with the two rows below it."""
    both = two_rows(table, one, other, first, second)
    halves = firm_halves(table)
    if not all([both.allow(signs) for signs in lones_among(halves)]):
        return False
    return first_without_way(pairs_among(halves), both) is None


def second_toll(table, one, first, other):
    """The toll of the row other over the table with the row one below it, at the tolls 1, .., 1 and first."""
    row = integers_of(one, table.columns)
    low = number_from(first, 1, "first")
    more = integers_of(other, table.columns)
    halves = firm_halves(table)
    lones = lones_among(halves)
    refuse_low(low, lones, row)
    return greatest_worth(above_among(lones, pairs_among(halves), row, low), more)


def above_lones(table, one, first):
    """The lone splits, and of each pair of which just one way is within first at the row that way; ascending."""
    row = integers_of(one, table.columns)
    low = number_from(first, 1, "first")
    halves = firm_halves(table)
    lones = lones_among(halves)
    refuse_low(low, lones, row)
    return above_among(lones, pairs_among(halves), row, low)


def failing_pair(table, one, other, first, second):
    """The first pair without a way within the two tolls, None if there is none."""
    both = two_rows(table, one, other, first, second)
    return first_without_way(pairs_among(firm_halves(table)), both)
