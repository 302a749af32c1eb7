"""Tolls of a row below a firm table whose integers are known as stretches alone."""

from splitnumbers.firmness import ones_of
from splitnumbers.kinds import number_from, refuse_many
from splitnumbers.lonesums import firm_lones
from splitnumbers.lonetolls import greatest_worth
from splitnumbers.mixes import Mix
from splitnumbers.numbers import Numbers, integers_of, of_length
from splitnumbers.pairtolls import above_lones
from splitnumbers.searching import MOST_GONE_THROUGH, all_splits
from splitnumbers.sets import set_of
from splitnumbers.signs import contrary
from splitnumbers.solving import solve, spare_column
from splitnumbers.stretches import MOST_WORLDS, worlds_of
from splitnumbers.weighing import weighed


def with_contraries(lones):
    """The lone splits and their contraries, ascending."""
    return sorted(lones + [contrary(signs) for signs in lones])


def known_of(table, stretches):
    """The stretches, if there is one for each column; else OtherSize."""
    return of_length(stretches, table.columns)


def greatest_reach(lones, known):
    """The greatest sum over all worlds, and the first of the signs in ascending order that has it."""
    greatest = None
    first = None
    for signs in with_contraries(lones):
        reached = known.reach(signs)[1]
        if greatest is None or reached > greatest:
            greatest = reached
            first = signs
    return (greatest, first)


def greatest_toll(table, stretches):
    """The greatest toll of a world, and the end world that has it."""
    known = known_of(table, stretches)
    toll, signs = greatest_reach(firm_lones(table), known)
    return (toll, known.end_world(signs))


def serves_all(table, stretches, toll):
    """Whether the tolls 1, .., 1 and this one serve the table with each world below it."""
    known = known_of(table, stretches)
    bound = number_from(toll, 0, "toll")
    return greatest_reach(firm_lones(table), known)[0] <= bound


def least_toll_ratio(table, stretches):
    """The least number that a world of ratios has as its greatest worth, this world, and a mix that shows it.

    The mix is sought that gains most in the world that is worst for it: its means are told by what is above 0 in
    them, with the low numbers as gains, and what is below 0, with the high ones. The prices of the means are then,
    but for the sign, the world.
    """
    known = known_of(table, stretches)
    signs = with_contraries(firm_lones(table))
    above = [contrary(spare_column(table.columns + 1, 1 + j)) for j in range(table.columns)]
    below = [contrary(column) for column in above]
    gains = [0] * len(signs) + list(known.lows) + [-high for high in known.highs]
    room = [1] + [0] * table.columns
    total, weights, prices = solve([(1,) + marks for marks in signs] + above + below, room, gains)[1:]
    world = -Numbers.of_ratios(prices[1:])
    return (total, world, Mix(weighed(signs, weights[:len(signs)])))


def world_with(table, stretches, toll):
    """The first world with this toll, None if there is none."""
    known = known_of(table, stretches)
    bound = number_from(toll, 0, "toll")
    refuse_many(table.columns, MOST_GONE_THROUGH)
    refuse_many(known.world_count(), MOST_WORLDS)
    lones = firm_lones(table)
    for world in worlds_of(known):
        if greatest_worth(lones, world) == bound:
            return world
    return None


def safe_split(table, stretches, toll, part):
    """The first split of the part whose worth is at most the toll in each world, None if there is none."""
    known = known_of(table, stretches)
    bound = number_from(toll, 0, "toll")
    places = set_of(part, table.columns)
    firm_lones(table)
    for signs in all_splits(table, ones_of(table), places):
        least, greatest = known.reach(signs)
        if -bound <= least and greatest <= bound:
            return signs
    return None


def greatest_second(table, one, first, stretches):
    """The greatest toll of a world over the table with a known row below it, at the tolls 1, .., 1 and first."""
    row = integers_of(one, table.columns)
    low = number_from(first, 1, "first")
    known = known_of(table, stretches)
    return greatest_reach(above_lones(table, row, low), known)[0]
