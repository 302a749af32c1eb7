"""Bounds for determinants, made of the tolls of their rows."""

from splitnumbers.errors import BadSet, BadSpot, NotMet
from splitnumbers.kinds import is_integer
from splitnumbers.ratios import least_ratio, lowest
from splitnumbers.sets import set_of
from splitnumbers.tolls import any_tolls

MOST_LOOSE = 3


def refuse_zero_among(tolls, places):
    """Nothing, or NotMet for a toll of 0 at one of the places."""
    if 0 in [tolls[i] for i in places]:
        raise NotMet("tolls")


def refuse_empty(places):
    """Nothing, or BadSet for the empty set."""
    if len(places) == 0:
        raise BadSet(-1)


def product_of(numbers):
    """The product of some integers, 1 for none."""
    product = 1
    for number in numbers:
        product = product * number
    return product


def bound_by(tolls, places, row):
    """The single bound of the places by one of them."""
    return tolls[row] * product_of([2 * tolls[i] - 1 for i in places if i != row])


def least_bound(tolls, places):
    """The least single bound of the places by one of them."""
    return min([bound_by(tolls, places, row) for row in places])


def loose_among(tolls, places):
    """The loose bound of the places as a ratio, None if more than three of them are loose."""
    loose = len([i for i in places if tolls[i] > 1])
    product = product_of([tolls[i] for i in places])
    if loose > MOST_LOOSE:
        return None
    return lowest(9 * product, 8) if loose == MOST_LOOSE else (product, 1)


def toll_product(tolls, rows):
    """The product of the tolls of the rows, 1 for no rows."""
    due = any_tolls(tolls)
    places = set_of(rows, len(due))
    refuse_zero_among(due, places)
    return product_of([due[i] for i in places])


def single_bound(tolls, rows, row):
    """The toll of the row times 2 q - 1 for each toll q of the other rows."""
    due = any_tolls(tolls)
    places = set_of(rows, len(due))
    if not is_integer(row) or row not in places:
        raise BadSpot("row")
    refuse_zero_among(due, places)
    return bound_by(due, places, row)


def least_single(tolls, rows):
    """The least single bound by one of the rows."""
    due = any_tolls(tolls)
    places = set_of(rows, len(due))
    refuse_empty(places)
    refuse_zero_among(due, places)
    return least_bound(due, places)


def loose_bound(tolls, rows):
    """The toll product of at most two loose rows, nine eighths of it for three, None for more."""
    due = any_tolls(tolls)
    places = set_of(rows, len(due))
    refuse_zero_among(due, places)
    return loose_among(due, places)


def square_bound(tolls, rows):
    """The lesser one of the least single bound and the loose bound, as a ratio."""
    due = any_tolls(tolls)
    places = set_of(rows, len(due))
    refuse_empty(places)
    refuse_zero_among(due, places)
    bounds = [(least_bound(due, places), 1)]
    loose = loose_among(due, places)
    if loose is not None:
        bounds.append(loose)
    return least_ratio(bounds)
