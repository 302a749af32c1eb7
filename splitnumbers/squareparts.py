"""Square parts of a table, with their determinants."""

from splitnumbers.kinds import number_from, refuse_many, spot_of
from splitnumbers.sets import grown_sets

MOST_ROWS = 6


def places_of_rests(sets, smaller):
    """For each set, where what is left of it without its first, second, .. entry stands among the smaller sets."""
    found = {places: at for at, places in enumerate(smaller)}
    return [[found[places[:k] + places[k + 1:]] for k in range(len(places))] for places in sets]


def grown_minors(row, sets, rests, minors):
    """The determinants at all sets of columns of some rows with this one below, from those of the rows alone."""
    grown = []
    for places, cut in zip(sets, rests):
        total = 0
        for place, at in zip(places, cut):
            # The last term is added, and the signs of the terms ahead of it alternate.
            total = row[place] * minors[at] - total
        grown.append(total)
    return grown


def squares_among(rows, columns):
    """All square parts of rows of so many columns, as square_parts tells them; there may be more rows than a table has.

    The determinants with one row less are kept: so each one needs no more than a sum.
    """
    minors = {(): [1]}
    smaller = [()]
    for _ in range(min(len(rows), columns)):
        sets = grown_sets(smaller, columns)
        rests = places_of_rests(sets, smaller)
        grown = {}
        for chosen in grown_sets(list(minors), len(rows)):
            grown[chosen] = grown_minors(rows[chosen[-1]], sets, rests, minors[chosen[:-1]])
            for places, number in zip(sets, grown[chosen]):
                yield (chosen, places, number)
        minors = grown
        smaller = sets


def square_parts(table):
    """All square parts as (rows, columns, determinant): fewer rows first, then by the rows, then by the columns."""
    yield from squares_among(table.rows, table.columns)


def greatest_square(table, row=None):
    """The first square part with the greatest size of determinant, of those that use the row if one is told."""
    if row is not None:
        spot_of(row, table.height, "row")
    refuse_many(table.height, MOST_ROWS)
    refuse_many(table.columns, MOST_ROWS)
    greatest = None
    for square in square_parts(table):
        if row is None or row in square[0]:
            if greatest is None or abs(square[2]) > abs(greatest[2]):
                greatest = square
    return greatest


def squares_with(table, number):
    """All square parts with that number of rows."""
    size = number_from(number, 1, "number")
    found = []
    for square in square_parts(table):
        if len(square[0]) > size:
            return found
        if len(square[0]) == size:
            found.append(square)
    return found
