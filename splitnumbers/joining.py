"""Tables joined at a row, at a column or along the corner."""

from splitnumbers.errors import BadNumber, BadTable
from splitnumbers.kinds import spot_of
from splitnumbers.lones import lone_splits
from splitnumbers.tables import Table, put_in, refuse_more, taken_out
from splitnumbers.tolls import tolls_of


def refuse_no_table(value, place):
    """Nothing, or BadTable for what is no table."""
    if not isinstance(value, Table):
        raise BadTable(place)


def row_spot(table, place, i):
    """A row of a table; BadTable(place) or BadSpot if there is no such one."""
    refuse_no_table(table, place)
    return spot_of(i, table.height, "row")


def column_spot(table, place, j):
    """A column of a table; BadTable(place) or BadSpot if there is no such one."""
    refuse_no_table(table, place)
    return spot_of(j, table.columns, "column")


def table_of(rows, columns):
    """The table of the rows, or BadNumber for more than 12 rows, then for more than 12 columns."""
    # More columns are refused by the table itself, but more rows with another error.
    refuse_more(len(rows), "rows")
    return Table(rows, columns=columns)


def behind_zeros(rows, count):
    """The rows, each with count zeros ahead."""
    return [(0,) * count + row for row in rows]


def ahead_of_zeros(rows, count):
    """The rows, each with count zeros behind."""
    return [row + (0,) * count for row in rows]


def at_row(one, i, other, k):
    """The table of two tables joined at row i of the first and row k of the second one."""
    at = row_spot(one, 0, i)
    below = row_spot(other, 1, k)
    rows = ahead_of_zeros(one.rows, other.columns)
    rows[at] = one.rows[at] + other.rows[below]
    return table_of(rows + behind_zeros(taken_out(other.rows, below), one.columns), one.columns + other.columns)


def at_column(one, j, other, l):
    """The table of two tables joined at column j of the first and column l of the second one."""
    at = column_spot(one, 0, j)
    beside = column_spot(other, 1, l)
    rows = ahead_of_zeros(one.rows, other.columns - 1)
    for row in other.rows:
        ahead = (0,) * at + (row[beside],) + (0,) * (one.columns - at - 1)
        rows.append(ahead + taken_out(row, beside))
    return table_of(rows, one.columns + other.columns - 1)


def blocks_table(*tables):
    """The table of one or more tables along the corner."""
    if len(tables) == 0:
        raise BadNumber("tables")
    for place, table in enumerate(tables):
        refuse_no_table(table, place)
    rows = []
    columns = 0
    for table in tables:
        rows = ahead_of_zeros(rows, table.columns) + behind_zeros(table.rows, columns)
        columns = columns + table.columns
    return table_of(rows, columns)


def tolls_at_row(tolls, height, i, other_height, k):
    """The tolls of both tables, from those of the table that is joined at row i of one and row k of the other."""
    due = tolls_of(tolls, height + other_height - 1)
    at = spot_of(i, height, "row")
    below = spot_of(k, other_height, "row")
    return (due[:height], put_in(due[height:], below, due[at]))


def joined_lones(one, j, other, l, tolls, other_tolls):
    """The leading lone splits, ascending, of two tables joined at a column."""
    joined = at_column(one, j, other, l)
    due = tolls_of(tolls, one.height)
    return lone_splits(joined, due + tolls_of(other_tolls, other.height))
