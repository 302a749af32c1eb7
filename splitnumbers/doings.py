"""Deeds done: the table and the tolls after a deed, from those before it."""

from splitnumbers.errors import BadTolls
from splitnumbers.kinds import spot_of
from splitnumbers.tables import Table, put_in, taken_out


def replaced(entries, place, entry):
    """A tuple with the entry at the place."""
    return put_in(taken_out(entries, place), place, entry)


def toll_at(toll, place):
    """A toll of at least 0; BadTolls for one below."""
    if toll < 0:
        raise BadTolls(place)
    return toll


def row_put(table, tolls, deed):
    """A row and its toll put in."""
    _, row, place, toll = deed
    changed = table.with_row(row, place)
    return (changed, put_in(tolls, place, toll_at(toll, place)))


def column_put(table, tolls, deed):
    """A column put in."""
    _, column, place = deed
    return (table.with_column(column, place), tolls)


def row_dropped(table, tolls, deed):
    """A row taken out with its toll."""
    changed = table.without_row(deed[1])
    return (changed, taken_out(tolls, deed[1]))


def column_dropped(table, tolls, deed):
    """A column taken out."""
    return (table.without_column(deed[1]), tolls)


def row_turned(table, tolls, deed):
    """The signs in a row changed."""
    return (table.turned_row(deed[1]), tolls)


def column_turned(table, tolls, deed):
    """The signs in a column changed."""
    return (table.turned_column(deed[1]), tolls)


def number_set(table, tolls, deed):
    """A number of the table changed."""
    _, i, j, value = deed
    at = spot_of(i, table.height, "row")
    place = spot_of(j, table.columns, "column")
    rows = replaced(table.rows, at, replaced(table.rows[at], place, value))
    return (Table(rows, columns=table.columns), tolls)


def toll_set(table, tolls, deed):
    """A toll changed."""
    _, i, value = deed
    at = spot_of(i, table.height, "row")
    return (table, replaced(tolls, at, toll_at(value, at)))


DOINGS = {
    "row": row_put, "column": column_put, "drop row": row_dropped, "drop column": column_dropped,
    "turn row": row_turned, "turn column": column_turned, "number": number_set, "toll": toll_set
}


def done(table, tolls, deed):
    """The table and the tolls after the deed; an error if it is refused."""
    doing = DOINGS[deed[0]]
    return doing(table, tolls, deed)
