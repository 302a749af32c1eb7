"""Odd and even rows, splits of a part, lowered tolls."""

from splitnumbers.searching import all_splits, first_of_part, is_within
from splitnumbers.sets import set_of
from splitnumbers.signs import signs_from
from splitnumbers.tolls import tolls_of


def sums_in(table, part):
    """The sums of the numbers of each row in the part."""
    return [sum([row[j] for j in part]) for row in table.rows]


def odd_rows(table, part):
    """The set of the rows whose numbers in the part have an odd sum."""
    places = set_of(part, table.columns)
    return tuple([row for row, total in enumerate(sums_in(table, places)) if total & 1 == 1])


def even_rows(table, part):
    """The set of the rows whose numbers in the part have an even sum."""
    places = set_of(part, table.columns)
    return tuple([row for row, total in enumerate(sums_in(table, places)) if total & 1 == 0])


def is_split(table, tolls, signs):
    """Whether the signs split their part within the tolls."""
    due = tolls_of(tolls, table.height)
    marks = signs_from(signs, table.columns)
    return is_within(table(marks), due)


def splits_of(table, tolls, part):
    """The splits of the part within the tolls, ascending."""
    due = tolls_of(tolls, table.height)
    return all_splits(table, due, set_of(part, table.columns))


def first_split(table, tolls, part):
    """The first split of the part within the tolls, None if it has none."""
    due = tolls_of(tolls, table.height)
    return first_of_part(table, due, set_of(part, table.columns))


def lowered_tolls(table, tolls, part):
    """The tolls, made one less where they are above 0 and the row's sums are of the other kind, odd or even."""
    due = tolls_of(tolls, table.height)
    places = set_of(part, table.columns)
    return tuple([toll - 1 if toll > 0 and (toll - total) & 1 == 1 else toll
                  for toll, total in zip(due, sums_in(table, places))])
