"""Shares as means of shares whose broken columns are independent."""

from splitnumbers.kinds import refuse_many
from splitnumbers.numbers import Numbers, shares_of
from splitnumbers.ranks import kernel_row
from splitnumbers.ratios import least_ratio, ratio_less, ratio_over, ratio_sum, ratio_times
from splitnumbers.roundings import places_broken
from splitnumbers.searching import MOST_GONE_THROUGH


def reach(row, direction):
    """The greatest ratio t for which the row of shares plus t times the direction, which is not 0, is one of shares."""
    bounds = []
    for share, step in zip(row, direction):
        if step[0] > 0:
            bounds.append(ratio_over(ratio_less(1, share), step))
        elif step[0] < 0:
            bounds.append(ratio_over(share, (-step[0], step[1])))
    return least_ratio(bounds)


def corner(table, row):
    """A row with the sums of the row of shares, 0 or 1 where it is, whose broken columns are independent."""
    kernel = kernel_row(table, places_broken(row))
    while kernel is not None:
        direction = Numbers(kernel)
        row = row + direction.scaled(reach(row, direction))
        kernel = kernel_row(table, places_broken(row))
    return row


def corners(table, row):
    """Couples of rows as corner finds them and weights, with the row of shares as means; no row stands there twice.

    From a corner the way leads through the row that is left, as far as there are shares. There another place is 0 or 1,
    where it was not in the corner.
    """
    found = []
    left = row
    weight = (1, 1)
    end = corner(table, left)
    while end != left:
        direction = left - end
        far = reach(left, direction)
        rest = ratio_over(weight, ratio_sum(1, far))
        found.append((end, ratio_times(rest, far)))
        left = left + direction.scaled(far)
        weight = rest
        end = corner(table, left)
    found.append((end, weight))
    return found


def spread(table, shares):
    """Couples (row of shares, weight), ascending: the broken columns of each row are independent, the sums are kept."""
    row = shares_of(shares, table.columns)
    refuse_many(len(places_broken(row)), MOST_GONE_THROUGH)
    found = corners(table, row)
    common = Numbers.common_bottom([(1, end.bottom) for end, _ in found])
    # Over one bottom the tops are in the order of the rows.
    ordered = sorted([(end.scaled(common).tops, weight) for end, weight in found])
    return [(Numbers(tops, common), weight) for tops, weight in ordered]
