"""The determinant of as many rows as columns."""

from splitnumbers.errors import BadRows, NotFitting
from splitnumbers.kinds import wrong_row
from splitnumbers.tables import Table


def listed_rows(rows):
    """The rows of a table, or of a list or tuple of at least one row of integers."""
    if isinstance(rows, Table):
        return rows.rows
    wrong = wrong_row(rows)
    if wrong is None and len(rows) == 0:
        wrong = -1
    if wrong is not None:
        raise BadRows(wrong)
    return rows


def first_beginning(rows):
    """The first of the rows whose first number is not 0, None if there is none."""
    for at, row in enumerate(rows):
        if row[0] != 0:
            return at
    return None


def cut_down(rows, line, scale):
    """The rows less multiples of the line that make their first numbers 0, without these; in integers.

    Each number is itself a determinant of the first rows, times the scale: so the division leaves no rest.
    """
    return [[(line[0] * number - row[0] * less) // scale for number, less in zip(row[1:], line[1:])] for row in rows]


def determinant(rows):
    """The determinant of a table, or of a list or tuple of rows, with as many rows as columns."""
    left = listed_rows(rows)
    if len(left) == 0 or len(left) != len(left[0]):
        raise NotFitting("square")
    sign = 1
    scale = 1
    while len(left) > 1:
        at = first_beginning(left)
        if at is None:
            return 0
        line = left[at]
        # The row passes at other rows on its way to the top.
        sign = -sign if at & 1 == 1 else sign
        left = cut_down(left[:at] + left[at + 1:], line, scale)
        scale = line[0]
    return sign * left[0][0]
