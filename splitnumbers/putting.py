"""Tables put in for a column of another table."""

from splitnumbers.joining import behind_zeros, column_spot, row_spot, table_of
from splitnumbers.tables import taken_out
from splitnumbers.tolls import tolls_of


def put_in(one, j, other, k):
    """The table of the second table put in, by its row k, for column j of the first one."""
    at = column_spot(one, 0, j)
    below = row_spot(other, 1, k)
    line = other.rows[below]
    rows = [taken_out(row, at) + tuple([row[at] * number for number in line]) for row in one.rows]
    columns = one.columns - 1
    return table_of(rows + behind_zeros(taken_out(other.rows, below), columns), columns + other.columns)


def is_telling(one, j, tolls, other, k):
    """Whether row k of the second table holds 1 or -1, and column j of the first one more than half of some toll."""
    at = column_spot(one, 0, j)
    due = tolls_of(tolls, one.height)
    below = row_spot(other, 1, k)
    if not any([abs(number) == 1 for number in other.rows[below]]):
        return False
    return any([2 * abs(row[at]) > toll for row, toll in zip(one.rows, due)])
