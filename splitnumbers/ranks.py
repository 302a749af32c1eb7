"""Ranks of rows, and columns whose sums can be 0 together."""

from math import gcd

from splitnumbers.sets import set_of


def reduced(row, kept):
    """A multiple of the row, less multiples of the kept rows, that is 0 at their places; without common divisor.

    kept holds couples (place, other row), and the place is one where later kept rows are 0.
    """
    left = list(row)
    for place, other in kept:
        if left[place] != 0:
            factor = left[place]
            left = without_divisor([other[place] * number - factor * less for number, less in zip(left, other)])
    return left


def without_divisor(row):
    """The row divided by the greatest common divisor of its numbers."""
    common = 0
    for number in row:
        common = gcd(common, number)
    return [number // common for number in row] if common > 1 else row


def first_filled(row, width):
    """The first of the first width places with a number other than 0, None if there is none."""
    for place in range(width):
        if row[place] != 0:
            return place
    return None


def rank_of(rows):
    """The greatest number of the rows of which none is a sum of ratios times the others."""
    kept = []
    for row in rows:
        left = reduced(row, kept)
        place = first_filled(left, len(left))
        if place is not None:
            kept.append((place, left))
    return len(kept)


def normed(row):
    """The row without common divisor, turned so that its first number other than 0 is above 0."""
    whole = without_divisor(list(row))
    place = first_filled(whole, len(whole))
    return tuple(whole) if whole[place] > 0 else tuple([-number for number in whole])


def kernel_row(table, part):
    """A row of integers that is 0 outside the part, not all 0, with all sums 0; None if there is none."""
    places = set_of(part, table.columns)
    kept = []
    for j in places:
        # Behind the column stands how it is made of the table's columns.
        made = [1 if k == j else 0 for k in range(table.columns)]
        left = reduced(list(table.column(j)) + made, kept)
        place = first_filled(left, table.height)
        if place is None:
            return normed(left[table.height:])
        kept.append((place, left))
    return None


def is_independent(table, part):
    """Whether the columns of the part are independent."""
    return kernel_row(table, part) is None
