"""Two rows of integers below a firm table, each with a toll."""

from splitnumbers.kinds import number_from
from splitnumbers.lones import worth_of
from splitnumbers.numbers import integers_of
from splitnumbers.signs import contrary, joined_signs


class TwoRows:
    """Two rows of integers, and a toll of at least 0 for each of them."""

    def __init__(self, one, other, first, second):
        self.one = one
        self.other = other
        self.first = first
        self.second = second

    def allow(self, signs):
        """Whether the signs are within both tolls."""
        return worth_of(self.one, signs) <= self.first and worth_of(self.other, signs) <= self.second


def two_rows(table, one, other, first, second):
    """Two rows and tolls of at least 1 that are handed in."""
    row = integers_of(one, table.columns)
    more = integers_of(other, table.columns)
    low = number_from(first, 1, "first")
    high = number_from(second, 1, "second")
    return TwoRows(row, more, low, high)


def ways_of(pair):
    """The sum and the difference of a pair: both are leading."""
    one, other = pair
    return [joined_signs(one, other), joined_signs(one, contrary(other))]


def first_without_way(pairs, both):
    """The first pair without a way that two rows allow, None if there is none."""
    for pair in pairs:
        if not any([both.allow(way) for way in ways_of(pair)]):
            return pair
    return None
