"""One column of any integers beside a firm table: what its tolls must carry."""

from splitnumbers.firmness import firm_halves
from splitnumbers.kinds import refuse_many
from splitnumbers.lonesums import firm_lones
from splitnumbers.numbers import dot_of, integers_of
from splitnumbers.searching import MOST_GONE_THROUGH
from splitnumbers.sets import parts_of, set_of
from splitnumbers.signs import signs_from
from splitnumbers.splitting import sums_in
from splitnumbers.tolls import refuse_zero, tolls_of


def evened_tolls(table, integers, tolls, part):
    """The tolls, made one less where that makes them odd or even as the sum of the part with the column is."""
    totals = [number + total for number, total in zip(integers, sums_in(table, part))]
    return [toll - ((toll - total) & 1) for toll, total in zip(tolls, totals)]


def left_side(table, due, part, signs):
    """The due tolls in the rows of the signs, and 1 for each of the part's columns that they do not cancel."""
    columns = [j for j in part if dot_of(signs, table.column(j)) != 0]
    return sum([toll for toll, mark in zip(due, signs) if mark != 0]) + len(columns)


def column_sides(table, column, tolls, part, signs):
    """The left side and the right side of a part and signs of rows, for the column beside the table."""
    integers = integers_of(column, table.height)
    due = tolls_of(tolls, table.height)
    places = set_of(part, table.columns)
    marks = signs_from(signs, table.height)
    refuse_zero(due)
    left = left_side(table, evened_tolls(table, integers, due, places), places, marks)
    return (left, abs(dot_of(marks, integers)))


def first_failing(table, integers, tolls, lones):
    """The first part, and for it the first of the signs of rows, whose left side is below the right side, else None."""
    for part in [()] + list(parts_of(table.columns)):
        due = evened_tolls(table, integers, tolls, part)
        for signs in lones:
            if left_side(table, due, part, signs) < abs(dot_of(signs, integers)):
                return (part, signs)
    return None


def column_failing(table, column, tolls):
    """The first part and lone split of the turned table that show that the tolls fail with the column, else None."""
    integers = integers_of(column, table.height)
    due = tolls_of(tolls, table.height)
    refuse_zero(due)
    refuse_many(max(table.columns, table.height), MOST_GONE_THROUGH)
    firm_halves(table)
    if table.height == 0:
        return None
    return first_failing(table, integers, due, firm_lones(~table))
