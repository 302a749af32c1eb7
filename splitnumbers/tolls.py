"""Tolls: which ones serve a table, and which parts fail."""

from splitnumbers.errors import BadTolls, NotMet, NotServing
from splitnumbers.kinds import refuse_many, wrong_integer
from splitnumbers.numbers import of_length
from splitnumbers.searching import MOST_GONE_THROUGH, half_splits
from splitnumbers.sets import holds, parts_of


def any_tolls(value):
    """Tolls of any length that are handed in, as a tuple."""
    wrong = wrong_integer(value, 0)
    if wrong is not None:
        raise BadTolls(wrong)
    return tuple(value)


def tolls_of(value, height):
    """Tolls of a table with so many rows that are handed in, as a tuple."""
    return of_length(any_tolls(value), height)


def loose_rows(tolls):
    """The set of the rows with a toll above 1."""
    return tuple([row for row, toll in enumerate(any_tolls(tolls)) if toll > 1])


def failing_part(table, tolls):
    """The first part without a split within the tolls, None if they serve."""
    due = tolls_of(tolls, table.height)
    refuse_many(table.columns, MOST_GONE_THROUGH)
    for part in parts_of(table.columns):
        if len(half_splits(table, due, part)) == 0:
            return part
    return None


def serves(table, tolls):
    """Whether each part has a split within the tolls."""
    return failing_part(table, tolls) is None


def least_failing(table, tolls):
    """The failing parts that hold no other failing part, smaller ones first."""
    due = tolls_of(tolls, table.height)
    refuse_many(table.columns, MOST_GONE_THROUGH)
    least = []
    for part in parts_of(table.columns):
        # What a part may hold has been gone through before it.
        if not any([holds(part, other) for other in least]) and len(half_splits(table, due, part)) == 0:
            least.append(part)
    return least


def refuse_failing(table, tolls):
    """Nothing, or TooMany(7) for more than 7 columns, then NotServing with the first failing part."""
    part = failing_part(table, tolls)
    if part is not None:
        raise NotServing(part)


def refuse_zero(tolls):
    """Nothing, or NotMet for a toll of 0."""
    if 0 in tolls:
        raise NotMet("tolls")
