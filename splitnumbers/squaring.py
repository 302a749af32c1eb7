"""Squares of sums, their means in mixes of signs, and the squares that are handed in."""

from splitnumbers.errors import BadMix, BadNumbers, OtherSize
from splitnumbers.kinds import is_listing
from splitnumbers.mixes import SignMix
from splitnumbers.numbers import Numbers, of_length
from splitnumbers.ratios import ratio_over, ratio_or_none, ratio_sum
from splitnumbers.signs import contrary, signs_from


def any_squares(value):
    """Squares of any number that are handed in, as a list of ratios."""
    entries = value.ratios if isinstance(value, Numbers) else value
    if not is_listing(entries):
        raise BadNumbers(-1)
    squares = [ratio_or_none(entry) for entry in entries]
    for place, square in enumerate(squares):
        if square is None or square[0] < 0:
            raise BadNumbers(place)
    return squares


def squares_of(value, height):
    """Squares of a table with so many rows that are handed in, as a list of ratios."""
    return of_length(any_squares(value), height)


def squares_at(table, signs):
    """The squares of the sums of signs that are taken as they are."""
    return tuple([total * total for total in table(signs)])


def sum_squares(table, signs):
    """The squares of the sums of the signs."""
    return squares_at(table, signs_from(signs, table.columns))


def refuse_other_mix(mix):
    """Nothing, or BadMix for what is no mix of signs."""
    if not isinstance(mix, SignMix):
        raise BadMix(-1)


def mean_squares(table, mix):
    """The means of the squares of the sums, over a mix of signs."""
    refuse_other_mix(mix)
    if mix.size != table.columns:
        raise OtherSize(table.columns)
    return tuple([mix.mean_square(row) for row in table.rows])


def balanced(mix):
    """The mix in which each signs and their contrary share the weight of the signs."""
    refuse_other_mix(mix)
    weights = {}
    for signs, weight in mix.entries:
        half = ratio_over(weight, 2)
        for marks in (signs, contrary(signs)):
            weights[marks] = ratio_sum(weights.get(marks, 0), half)
    return SignMix([(signs, weights[signs]) for signs in weights])
