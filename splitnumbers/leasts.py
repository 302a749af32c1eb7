"""Least tolls, and the least equal toll."""

from splitnumbers.kinds import refuse_many
from splitnumbers.numbers import dot_of
from splitnumbers.searching import MOST_GONE_THROUGH
from splitnumbers.sets import parts_of, set_of
from splitnumbers.signs import signs_of

MOST_COLUMNS = 5
MOST_ROWS = 6


def is_nowhere_greater(one, other):
    """Whether no entry of one is above that of the other."""
    return all([number <= bound for number, bound in zip(one, other)])


def least_tuples(tuples):
    """Those of the tuples that no other one is nowhere greater than, each once, ascending."""
    least = []
    for one in sorted(set(tuples)):
        # What is nowhere greater than this one stands before it in ascending order.
        if not any([is_nowhere_greater(other, one) for other in least]):
            least.append(one)
    return least


def sizes_in(table, part):
    """The sizes of the sums, for each row of signs of the part."""
    return [tuple([abs(dot_of(row, signs)) for row in table.rows]) for signs in signs_of(part, table.columns)]


def part_choices(table, part):
    """The least tuples of sizes of sums that the signs of the part have."""
    places = set_of(part, table.columns)
    refuse_many(len(places), MOST_GONE_THROUGH)
    return least_tuples(sizes_in(table, places))


def raised_to(tolls, choices):
    """The tolls, raised in all ways so that they allow one of the choices."""
    if any([is_nowhere_greater(choice, tolls) for choice in choices]):
        return [tolls]
    return [tuple([max(toll, size) for toll, size in zip(tolls, choice)]) for choice in choices]


def least_tolls(table):
    """All least tolls, ascending."""
    refuse_many(table.columns, MOST_COLUMNS)
    refuse_many(table.height, MOST_ROWS)
    least = [(0,) * table.height]
    for part in parts_of(table.columns):
        choices = part_choices(table, part)
        least = least_tuples([raised for tolls in least for raised in raised_to(tolls, choices)])
    return least


def least_equal(table):
    """The least integer that serves as toll of all rows."""
    refuse_many(table.columns, MOST_GONE_THROUGH)
    toll = 0
    for part in parts_of(table.columns):
        toll = max(toll, min([max((0,) + sizes) for sizes in sizes_in(table, part)]))
    return toll
