"""Steps that keep the sum of the shares at a row, and their prices."""

from splitnumbers.abouts import gaps_of
from splitnumbers.lonesums import firm_lones
from splitnumbers.lonetolls import greatest_worth
from splitnumbers.numbers import dot_of, integers_of, shares_of
from splitnumbers.ratios import is_greater, ratio_over, ratio_sum, ratio_times
from splitnumbers.steps import firm_ones, steps_among


def crossing(gaps, one, other):
    """How far on the way from one to other the miss at the row is 0, for misses below and above 0."""
    return ratio_over(-gaps[one], gaps[other] - gaps[one])


def price_steps(lones, gaps):
    """All price steps (z, z', t), ascending."""
    steps = [(rounding, rounding, (0, 1)) for rounding in gaps if gaps[rounding] == 0]
    for one, other in steps_among(lones, list(gaps)):
        if gaps[one] < 0 < gaps[other] or gaps[other] < 0 < gaps[one]:
            steps.append((one, other, crossing(gaps, one, other)))
    return sorted(steps)


def price_of(costs, step):
    """The price of a price step, a ratio."""
    one, other, far = step
    start = dot_of(costs, one)
    return ratio_sum(start, ratio_times(far, dot_of(costs, other) - start))


def cheapest(costs, steps):
    """The first of the price steps with the least price, and this price."""
    best = None
    least = None
    for step in steps:
        price = price_of(costs, step)
        if least is None or is_greater(least, price):
            best = step
            least = price
    return (best, least)


def cheapest_step(table, row, prices, shares):
    """The first price step with the least price, and this price."""
    integers = integers_of(row, table.columns)
    costs = integers_of(prices, table.columns)
    kept = shares_of(shares, table.columns)
    lones = firm_lones(table)
    gaps = gaps_of(integers, kept, firm_ones(table, kept))
    return cheapest(costs, price_steps(lones, gaps))


def price_step(table, row, prices, shares):
    """The first price step (z, z', t) with the least price."""
    return cheapest_step(table, row, prices, shares)[0]


def step_price(table, row, prices, shares):
    """The least price of a price step."""
    return cheapest_step(table, row, prices, shares)[1]


def below_toll(gaps, toll):
    """The roundings whose miss, times the bottom of the shares, is 0 or of a size less than the toll times it."""
    return [rounding for rounding in gaps if gaps[rounding] == 0 or abs(gaps[rounding]) < toll]


def cheap_rounding(table, row, prices, shares):
    """The first of the cheapest firm roundings whose miss at the row is below the toll of the row."""
    integers = integers_of(row, table.columns)
    costs = integers_of(prices, table.columns)
    kept = shares_of(shares, table.columns)
    lones = firm_lones(table)
    gaps = gaps_of(integers, kept, firm_ones(table, kept))
    near = below_toll(gaps, greatest_worth(lones, integers) * kept.bottom)
    return min([(dot_of(costs, rounding), rounding) for rounding in near])[1]
