"""Targets of square tables: their solutions, their classes and their rests within the tolls."""

from splitnumbers.determinants import determinant
from splitnumbers.errors import NotFitting, NotMet
from splitnumbers.kinds import refuse_many, spot_of
from splitnumbers.meaning import cheap_within
from splitnumbers.nearest import near_rounding
from splitnumbers.numbers import Numbers, integers_of
from splitnumbers.tolls import loose_rows, refuse_failing, refuse_zero, tolls_of

MOST_ROWS = 6
MOST_LOOSE = 2


def class_count(table):
    """The number of classes of targets: the size of the determinant."""
    return abs(determinant(table))


def refuse_unsolvable(table):
    """Nothing, or the table's errors."""
    refuse_many(table.height, MOST_ROWS)
    refuse_many(table.columns, MOST_ROWS)
    if determinant(table) == 0:
        raise NotFitting("determinant")


def with_column_at(table, j, column):
    """The rows of the table with other numbers in column j."""
    return [row[:j] + (number,) + row[j + 1:] for row, number in zip(table.rows, column)]


def solution_of(table, tops, bottom):
    """The row of numbers whose sums are the tops over the bottom, for a table with a determinant other than 0."""
    whole = determinant(table)
    turn = 1 if whole > 0 else -1
    found = [turn * determinant(with_column_at(table, j, tops)) for j in range(table.columns)]
    return Numbers(found, turn * whole * bottom)


def rounded_down(row):
    """A row of numbers rounded down, a tuple, and what is left of it."""
    whole = tuple([top // row.bottom for top in row.tops])
    return (whole, Numbers([top % row.bottom for top in row.tops], row.bottom))


def with_rest(table, goal, whole, rounding):
    """The multipliers that the rounding makes of a solution rounded down, and what is then left of the target."""
    multipliers = tuple([number + more for number, more in zip(whole, rounding)])
    return (multipliers, tuple([number - total for number, total in zip(goal, table(multipliers))]))


def solved(table, target):
    """The row of numbers whose sums are the target."""
    goal = integers_of(target, table.height)
    refuse_unsolvable(table)
    return solution_of(table, goal, 1)


def split_target(table, target):
    """The solution of the target rounded down, and what is left of it: a row of shares."""
    return rounded_down(solved(table, target))


def rest_of(table, tolls, row, target):
    """Multipliers and a rest from 0 to below the toll in one row, in size below the toll in each other row."""
    due = tolls_of(tolls, table.height)
    at = spot_of(row, table.height, "row")
    goal = integers_of(target, table.height)
    whole, shares = split_target(table, goal)
    # The rest is the contrary of the miss: a rounding that costs little, at the row's numbers, leaves nothing below 0.
    return with_rest(table, goal, whole, cheap_within(table, due, table.rows[at], shares))


def close_rest(table, tolls, target):
    """Multipliers and a rest from 0 to below the toll in each row, if at most two rows are loose."""
    due = tolls_of(tolls, table.height)
    goal = integers_of(target, table.height)
    refuse_unsolvable(table)
    refuse_zero(due)
    refuse_failing(table, due)
    if len(loose_rows(due)) > MOST_LOOSE:
        raise NotMet("loose")
    # Some rounding misses no loose row by more than half of its toll. For the target less half of q - 1 in each row
    # the rest, this half put back, is then from -1/2 to q - 1/2; and rows of toll 1 keep their whole sums.
    lower = [2 * number - toll + 1 for number, toll in zip(goal, due)]
    whole, shares = rounded_down(solution_of(table, lower, 2))
    return with_rest(table, goal, whole, near_rounding(table, due, shares))
