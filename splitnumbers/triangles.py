"""Firm roundings, and mixes of at most three of them, that keep near to the sums at two rows below a firm table."""

from splitnumbers.abouts import gaps_of
from splitnumbers.errors import NotServing
from splitnumbers.firmness import firm_halves
from splitnumbers.kinds import refuse_many
from splitnumbers.lonesums import lones_among
from splitnumbers.mixes import RoundingMix
from splitnumbers.numbers import dot_of, integers_of, shares_of
from splitnumbers.pairs import pairs_among
from splitnumbers.ratios import is_greater, lowest
from splitnumbers.signs import made_leading, part_of, signs_from
from splitnumbers.steps import difference, firm_ones
from splitnumbers.tworows import two_rows, ways_of
from splitnumbers.weighing import mix_of_means

MOST_COLUMNS = 5


def refuse_unfirm(table):
    """What firm_halves tells, or TooMany(5) for more than 5 columns, then NotFirm."""
    refuse_many(table.columns, MOST_COLUMNS)
    return firm_halves(table)


def refuse_failing_rows(halves, both):
    """Nothing, or NotServing with the first part that has no split within both tolls."""
    for half in halves:
        if not any([both.allow(signs) for signs in half]):
            raise NotServing(part_of(half[0]))


def misses_at(both, row, roundings):
    """For each rounding of a Numbers object of shares its misses at both rows, times the bottom of the shares."""
    firsts = gaps_of(both.one, row, roundings)
    seconds = gaps_of(both.other, row, roundings)
    return {rounding: (firsts[rounding], seconds[rounding]) for rounding in roundings}


def below_both(misses, both, bottom):
    """The roundings whose misses, times the bottom, are below both tolls in size."""
    low = both.first * bottom
    high = both.second * bottom
    return [rounding for rounding in misses if abs(misses[rounding][0]) < low and abs(misses[rounding][1]) < high]


def half_both(table, one, other, first, second, shares):
    """The first firm rounding that misses by at most half of both tolls, None if there is none."""
    both = two_rows(table, one, other, first, second)
    row = shares_of(shares, table.columns)
    refuse_unfirm(table)
    misses = misses_at(both, row, firm_ones(table, row))
    for rounding in misses:
        if (2 * abs(misses[rounding][0]) <= both.first * row.bottom
                and 2 * abs(misses[rounding][1]) <= both.second * row.bottom):
            return rounding
    return None


def good_differences(halves, both):
    """The leading good differences, as the keys of a dict."""
    ways = [way for pair in pairs_among(halves) for way in ways_of(pair)]
    return {signs: True for signs in lones_among(halves) + ways if both.allow(signs)}


def is_good(table, one, other, first, second, signs):
    """Whether the signs are a good difference."""
    both = two_rows(table, one, other, first, second)
    marks = signs_from(signs, table.columns)
    return made_leading(marks) in good_differences(refuse_unfirm(table), both)


def grown_by_one(groups, roundings, good):
    """The ascending groups of roundings, each with one greater rounding more that differs well from all in it."""
    grown = []
    for group in groups:
        for rounding in roundings:
            # A difference to a lesser rounding is leading.
            if group[-1] < rounding and all([difference(member, rounding) in good for member in group]):
                grown.append(group + (rounding,))
    return grown


def cross(one, other):
    """The determinant of two couples."""
    return one[0] * other[1] - one[1] * other[0]


def balance_of_two(one, other):
    """Integers above 0 with which two couples add up to (0, 0), None if there are none that are told by them alone."""
    if cross(one, other) != 0 or one[0] * other[0] + one[1] * other[1] >= 0:
        return None
    # They lie on one line, on either side: so these sums measure their lengths.
    return (abs(other[0]) + abs(other[1]), abs(one[0]) + abs(one[1]))


def balance_of_three(one, other, third):
    """The same for three couples."""
    shares = (cross(other, third), cross(third, one), cross(one, other))
    if min(shares) > 0 or max(shares) < 0:
        return tuple([abs(share) for share in shares])
    return None


def balance_of(couples):
    """Integers above 0 with which one, two or three couples add up to (0, 0), None if they do not settle them.

    Where couples leave the integers open, fewer of them do as well, at no higher price.
    """
    if len(couples) == 1:
        return (1,) if couples[0] == (0, 0) else None
    if len(couples) == 2:
        return balance_of_two(couples[0], couples[1])
    return balance_of_three(couples[0], couples[1], couples[2])


def balanced_triangles(misses, good):
    """Triangles with integers above 0, as balance_of tells them, that keep both sums."""
    roundings = list(misses)
    ones = [(rounding,) for rounding in roundings]
    twos = grown_by_one(ones, roundings, good)
    balanced = []
    for group in ones + twos + grown_by_one(twos, roundings, good):
        shares = balance_of([misses[rounding] for rounding in group])
        if shares is not None:
            balanced.append((group, shares))
    return balanced


def cheapest_triangle(costs, triangles):
    """The first of the triangles with the least price."""
    best = None
    least = None
    for group, shares in triangles:
        price = lowest(dot_of(shares, [dot_of(costs, rounding) for rounding in group]), sum(shares))
        if least is None or is_greater(least, price):
            best = (group, shares)
            least = price
    return best


def triangle_of(table, one, other, first, second, prices, shares):
    """The cheapest mix of a triangle that keeps both sums."""
    both = two_rows(table, one, other, first, second)
    costs = integers_of(prices, table.columns)
    row = shares_of(shares, table.columns)
    halves = refuse_unfirm(table)
    refuse_failing_rows(halves, both)
    misses = misses_at(both, row, firm_ones(table, row))
    group, weights = cheapest_triangle(costs, balanced_triangles(misses, good_differences(halves, both)))
    return RoundingMix([(rounding, (weight, sum(weights))) for rounding, weight in zip(group, weights)])


def both_mix(table, one, other, first, second, shares):
    """A mix of firm roundings with the shares as means, misses below both tolls and small mean squares there."""
    both = two_rows(table, one, other, first, second)
    row = shares_of(shares, table.columns)
    refuse_failing_rows(refuse_unfirm(table), both)
    misses = misses_at(both, row, firm_ones(table, row))
    near = below_both(misses, both, row.bottom)
    squares = [tuple([4 * size * size for size in misses[rounding]]) for rounding in near]
    bounds = [(toll * row.bottom) * (toll * row.bottom) for toll in (both.first, both.second)]
    return mix_of_means(near, squares, row, bounds)


def cheap_both(table, one, other, first, second, prices, shares):
    """The first of the cheapest firm roundings with misses below both tolls, None if there is none."""
    both = two_rows(table, one, other, first, second)
    costs = integers_of(prices, table.columns)
    row = shares_of(shares, table.columns)
    refuse_unfirm(table)
    near = below_both(misses_at(both, row, firm_ones(table, row)), both, row.bottom)
    return min([(dot_of(costs, rounding), rounding) for rounding in near])[1] if near else None
