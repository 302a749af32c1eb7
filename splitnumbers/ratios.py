"""Ratios: tuples (top, bottom) of integers in lowest terms, the bottom at least 1."""

from math import gcd

from splitnumbers.errors import BadNumber, BadRatio
from splitnumbers.kinds import is_integer, is_listing


def lowest(top, bottom):
    """The ratio of two integers, bottom at least 1, in lowest terms."""
    common = gcd(top, bottom)
    return (top // common, bottom // common)


def ratio_or_none(value):
    """The value as a ratio, None if it is no ratio."""
    if is_integer(value):
        return (value, 1)
    if not is_listing(value) or len(value) != 2:
        return None
    top, bottom = value
    if not is_integer(top) or not is_integer(bottom) or bottom < 1:
        return None
    return lowest(top, bottom)


def ratio_called(value, word):
    """The value as a ratio; BadRatio(word) if it is none."""
    ratio = ratio_or_none(value)
    if ratio is None:
        raise BadRatio(word)
    return ratio


def ratio_of(value):
    """The value as a ratio."""
    return ratio_called(value, "ratio")


def ratio_sum(one, other):
    """one plus other."""
    top, bottom = ratio_called(one, "one")
    more, under = ratio_called(other, "other")
    return lowest(top * under + more * bottom, bottom * under)


def ratio_less(one, other):
    """one minus other."""
    top, bottom = ratio_called(one, "one")
    less, under = ratio_called(other, "other")
    return lowest(top * under - less * bottom, bottom * under)


def ratio_times(one, other):
    """one times other."""
    top, bottom = ratio_called(one, "one")
    over, under = ratio_called(other, "other")
    return lowest(top * over, bottom * under)


def ratio_over(one, other):
    """one divided by other, None if other is zero."""
    top, bottom = ratio_called(one, "one")
    over, under = ratio_called(other, "other")
    if over == 0:
        return None
    if over < 0:
        return lowest(-top * under, -bottom * over)
    return lowest(top * under, bottom * over)


def ratio_at_most(one, other):
    """Whether one <= other."""
    return not is_greater(ratio_called(one, "one"), ratio_called(other, "other"))


def is_greater(one, other):
    """Whether the ratio one is above the ratio other."""
    return one[0] * other[1] > other[0] * one[1]


def ratio_size(value):
    """The ratio without its sign."""
    top, bottom = ratio_called(value, "value")
    return (abs(top), bottom)


def listed_ratios(ratios):
    """The ratios of a list or tuple that is not empty."""
    if not is_listing(ratios) or len(ratios) == 0:
        raise BadNumber("ratios")
    return [ratio_called(value, "ratios") for value in ratios]


def greatest_ratio(ratios):
    """The greatest of some ratios."""
    listed = listed_ratios(ratios)
    greatest = listed[0]
    for ratio in listed:
        if is_greater(ratio, greatest):
            greatest = ratio
    return greatest


def least_ratio(ratios):
    """The least of some ratios."""
    listed = listed_ratios(ratios)
    least = listed[0]
    for ratio in listed:
        if is_greater(least, ratio):
            least = ratio
    return least
