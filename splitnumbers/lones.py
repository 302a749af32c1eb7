"""Lone splits, and the toll of a further row."""

from splitnumbers.errors import NotServing
from splitnumbers.kinds import refuse_many
from splitnumbers.numbers import dot_of, integers_of
from splitnumbers.searching import MOST_GONE_THROUGH, half_splits, lone_of_part
from splitnumbers.sets import parts_of
from splitnumbers.signs import made_leading, part_of, signs_from
from splitnumbers.tolls import tolls_of


def is_lone(table, tolls, signs):
    """Whether the signs and their contrary are the only splits of their part."""
    due = tolls_of(tolls, table.height)
    marks = signs_from(signs, table.columns)
    part = part_of(marks)
    return len(part) > 0 and lone_of_part(table, due, part) == made_leading(marks)


def lone_splits(table, tolls):
    """The leading lone splits, ascending."""
    due = tolls_of(tolls, table.height)
    refuse_many(table.columns, MOST_GONE_THROUGH)
    lones = [lone_of_part(table, due, part) for part in parts_of(table.columns)]
    return sorted([signs for signs in lones if signs is not None])


def worth_of(row, signs):
    """The worth of the signs at a row of integers."""
    return abs(dot_of(row, signs))


def least_worths(table, tolls, row):
    """Couples of each part that is not empty and the least worth of its splits, in the order of parts."""
    due = tolls_of(tolls, table.height)
    integers = integers_of(row, table.columns)
    refuse_many(table.columns, MOST_GONE_THROUGH)
    worths = []
    for part in parts_of(table.columns):
        half = half_splits(table, due, part)
        if len(half) == 0:
            raise NotServing(part)
        worths.append((part, min([worth_of(integers, signs) for signs in half])))
    return worths


def toll_of_row(table, tolls, row):
    """The least toll of the row as a further last one below the table with its tolls."""
    return max([worth for _, worth in least_worths(table, tolls, row)])


def part_of_toll(table, tolls, row):
    """The first part whose least worth is the toll of the row, None if this is 0."""
    worths = least_worths(table, tolls, row)
    toll = max([worth for _, worth in worths])
    if toll == 0:
        return None
    return [part for part, worth in worths if worth == toll][0]


def lone_worth(table, tolls, row):
    """The greatest worth of a lone split at the row, 0 without lone splits."""
    due = tolls_of(tolls, table.height)
    integers = integers_of(row, table.columns)
    return max([0] + [worth_of(integers, signs) for signs in lone_splits(table, due)])
