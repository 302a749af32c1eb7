"""The least price of a mix of firm roundings whose sum at a row is given, and of a rounding within a budget."""

from splitnumbers.firmness import firm_halves
from splitnumbers.numbers import dot_of, integers_of, shares_of
from splitnumbers.ratios import is_greater, ratio_called, ratio_less, ratio_over, ratio_sum, ratio_times
from splitnumbers.steps import firm_ones


def points_and_budget(table, row, prices, shares, budget):
    """For each firm rounding its sum at the row and its price; and the budget as a ratio."""
    integers = integers_of(row, table.columns)
    costs = integers_of(prices, table.columns)
    kept = shares_of(shares, table.columns)
    total = ratio_called(budget, "budget")
    firm_halves(table)
    roundings = firm_ones(table, kept)
    return ({rounding: (dot_of(integers, rounding), dot_of(costs, rounding)) for rounding in roundings}, total)


def least_at_each(points):
    """The points (sum, price), ascending, with the least price of each sum."""
    least = {}
    for total, price in points:
        least[total] = min(price, least.get(total, price))
    return sorted(list(least.items()))


def is_bend(one, middle, other):
    """Whether the middle point lies below the straight way from the one ahead of it to the other."""
    rise = (middle[1] - one[1]) * (other[0] - one[0])
    return rise < (other[1] - one[1]) * (middle[0] - one[0])


def corners_of(points):
    """The corners of the points, ascending."""
    corners = []
    for point in least_at_each(points):
        while len(corners) > 1 and not is_bend(corners[-2], corners[-1], point):
            corners.pop()
        corners.append(point)
    return corners


def price_between(one, other, total):
    """The price at a ratio on the straight way between two corners."""
    far = ratio_over(ratio_less(total, one[0]), other[0] - one[0])
    return ratio_sum(one[1], ratio_times(far, other[1] - one[1]))


def price_along(corners, total):
    """The price at a ratio on the way along the corners, None before the first and behind the last one."""
    for corner in corners:
        if total == (corner[0], 1):
            return (corner[1], 1)
    for one, other in zip(corners, corners[1:]):
        if is_greater(total, (one[0], 1)) and is_greater((other[0], 1), total):
            return price_between(one, other, total)
    return None


def least_price(table, row, prices, shares, budget):
    """The least price of a mix of firm roundings whose mean at the row is the budget, None if there is no such mix."""
    points, total = points_and_budget(table, row, prices, shares, budget)
    return price_along(corners_of(list(points.values())), total)


def price_corners(table, row, prices, shares):
    """The places (sum, price), ascending, where the least price begins, bends and ends."""
    # No budget is asked for here, and any one does.
    points, _ = points_and_budget(table, row, prices, shares, 0)
    return tuple(corners_of(list(points.values())))


def cheapest_within(table, row, prices, shares, budget):
    """The first of the cheapest firm roundings whose sum at the row is at most the budget, None if there is none."""
    points, total = points_and_budget(table, row, prices, shares, budget)
    near = [(points[rounding][1], rounding) for rounding in points if not is_greater((points[rounding][0], 1), total)]
    return min(near)[1] if near else None
