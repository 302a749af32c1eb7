"""Tables pivoted: a row of toll 1 taken out together with a column."""

from splitnumbers.errors import NotFitting
from splitnumbers.kinds import spot_of
from splitnumbers.tables import Table, taken_out
from splitnumbers.tolls import tolls_of


def pivoted_at(table, at, place):
    """The table pivoted at a number 1 or -1 of a table with more than one column."""
    line = table.rows[at]
    rows = []
    for row in taken_out(table.rows, at):
        factor = line[place] * row[place]
        rows.append(taken_out(tuple([number - factor * less for number, less in zip(row, line)]), place))
    return Table(rows, columns=table.columns - 1)


def spots_of(table, tolls):
    """The spots as (row, column), ascending."""
    return [(i, j) for i, row in enumerate(table.rows) for j, number in enumerate(row)
            if tolls[i] == 1 and abs(number) == 1]


def pivoted(table, row, column):
    """The table without the row and the column, its numbers less what the row takes from them."""
    at = spot_of(row, table.height, "row")
    place = spot_of(column, table.columns, "column")
    if abs(table.rows[at][place]) != 1:
        raise NotFitting("pivot")
    if table.columns == 1:
        raise NotFitting("columns")
    return pivoted_at(table, at, place)


def pivot_spots(table, tolls):
    """The rows with toll 1 and the columns where they have 1 or -1, as (row, column), ascending."""
    return spots_of(table, tolls_of(tolls, table.height))


def pivot_all(table, tolls):
    """The table that is left after pivots at the first spots, and the sets of its rows and columns in the first one."""
    due = tolls_of(tolls, table.height)
    last = table
    rows = tuple(range(table.height))
    columns = tuple(range(table.columns))
    spots = spots_of(last, due)
    while spots and last.columns > 1:
        at, place = spots[0]
        last = pivoted_at(last, at, place)
        due = taken_out(due, at)
        rows = taken_out(rows, at)
        columns = taken_out(columns, place)
        spots = spots_of(last, due)
    return (last, rows, columns)
