"""Shares doubled and rounded, the misses of roundings, firm roundings."""

from splitnumbers.errors import BadRounding, NotFitting
from splitnumbers.kinds import is_from, is_listing, refuse_many
from splitnumbers.numbers import Numbers, any_shares, dot_of, shares_of
from splitnumbers.searching import MOST_GONE_THROUGH
from splitnumbers.signs import choices_of, part_of, put_at
from splitnumbers.tolls import tolls_of


def doubled(shares):
    """The carry and the double of the shares."""
    row = any_shares(shares)
    carry = tuple([2 * top // row.bottom for top in row.tops])
    double = [2 * top - whole * row.bottom for top, whole in zip(row.tops, carry)]
    return (carry, Numbers(double, row.bottom))


def places_broken(row):
    """The places of a Numbers object of shares whose shares are neither 0 nor 1."""
    return tuple([place for place, top in enumerate(row.tops) if 0 < top < row.bottom])


def broken_places(shares):
    """The set of the places with broken shares."""
    return places_broken(any_shares(shares))


def roundings_of(shares):
    """All roundings of the shares, ascending."""
    row = any_shares(shares)
    places = places_broken(row)
    refuse_many(len(places), MOST_GONE_THROUGH)
    low = tuple([top // row.bottom for top in row.tops])
    for numbers in choices_of((0, 1), len(places)):
        yield put_at(places, numbers, low)


def rounding_of_row(value, row):
    """A rounding of a Numbers object of shares, as a tuple."""
    if not is_listing(value) or len(value) != len(row):
        raise BadRounding(-1)
    for place, (number, top) in enumerate(zip(value, row.tops)):
        if not is_from(number, 0, 1) or (top in (0, row.bottom) and number * row.bottom != top):
            raise BadRounding(place)
    return tuple(value)


def rounding_from(value, shares):
    """A rounding of the shares that is handed in, as a tuple."""
    row = any_shares(shares)
    return rounding_of_row(value, row)


def miss_tops(table, row, rounding):
    """The miss of a rounding of a Numbers object of shares, as tops over the bottom of the shares."""
    steps = [number * row.bottom - top for number, top in zip(rounding, row.tops)]
    return [dot_of(numbers, steps) for numbers in table.rows]


def miss(table, shares, rounding):
    """The row of the sums of the rounding less those of the shares."""
    row = shares_of(shares, table.columns)
    return Numbers(miss_tops(table, row, rounding_of_row(rounding, row)), row.bottom)


def odd_part(carry, rounding):
    """The places where the carry and the rounding of the double are 1 together."""
    return tuple([place for place, (whole, number) in enumerate(zip(carry, rounding)) if whole + number == 1])


def halved(carry, rounding, signs):
    """Half of carry, rounding and signs of the odd part together: a rounding of the shares before."""
    if part_of(signs) != odd_part(carry, rounding):
        raise NotFitting("signs")
    return tuple([(whole + number + mark) // 2 for whole, number, mark in zip(carry, rounding, signs)])


def keeps_firm(tops, tolls, bottom):
    """Whether a miss, as tops over a bottom, is within -1 and 1 in all rows that are not loose."""
    return all([toll > 1 or -bottom < top < bottom for top, toll in zip(tops, tolls)])


def is_firm_rounding(table, tolls, shares, rounding):
    """Whether the rounding is firm at the tolls."""
    due = tolls_of(tolls, table.height)
    row = shares_of(shares, table.columns)
    return keeps_firm(miss_tops(table, row, rounding_of_row(rounding, row)), due, row.bottom)


def firm_roundings(table, tolls, shares):
    """All firm roundings of the shares, ascending."""
    due = tolls_of(tolls, table.height)
    row = shares_of(shares, table.columns)
    return [rounding for rounding in roundings_of(row) if keeps_firm(miss_tops(table, row, rounding), due, row.bottom)]
