"""Tables with at most two numbers in each column, 1 or -1: their odd rings and their least tolls."""

from splitnumbers.errors import NotFitting
from splitnumbers.kinds import refuse_many
from splitnumbers.sets import least_sets, parts_of

MOST_ROWS = 6


def is_two_in_each(lines):
    """Whether each line holds at most two numbers that are not 0, and each of these is 1 or -1."""
    filled = [[number for number in line if number != 0] for line in lines]
    return all([len(numbers) <= 2 and all([abs(number) == 1 for number in numbers]) for numbers in filled])


def two_a_column(table):
    """Whether each column holds at most two numbers that are not 0, each of them 1 or -1."""
    return is_two_in_each([table.column(j) for j in range(table.columns)])


def two_a_row(table):
    """Whether each row holds at most two numbers that are not 0, each of them 1 or -1."""
    return is_two_in_each(table.rows)


def bonds_of(table):
    """Keys (row, other row, whether a column holds equal numbers there), for all columns with two numbers."""
    bonds = {}
    for j in range(table.columns):
        column = table.column(j)
        rows = [i for i, number in enumerate(column) if number != 0]
        if len(rows) == 2:
            one, other = rows
            equal = column[one] == column[other]
            bonds[(one, other, equal)] = True
            bonds[(other, one, equal)] = True
    return bonds


def grown_ways(ways, bonds):
    """The ways (rows, whether equal numbers came up oddly often), each one row longer; the first row is the least."""
    grown = []
    for rows, odd in ways:
        for one, other, equal in bonds:
            if one == rows[-1] and other > rows[0] and other not in rows:
                grown.append((rows + (other,), odd != equal))
    return grown


def odd_ring_sets(table):
    """The sets of rows of odd rings, ascending.

    A column of a ring adds 2 or -2 with equal numbers, else 0: a ring is odd if an odd number of its columns holds
    equal ones. A ring of length 2 with this has two different columns then.
    """
    bonds = bonds_of(table)
    ways = [((i,), False) for i in range(table.height)]
    rings = []
    for _ in range(table.height):
        ways = grown_ways(ways, bonds)
        rings.extend([tuple(sorted(rows)) for rows, odd in ways if (rows[-1], rows[0], not odd) in bonds])
    return sorted(set(rings))


def refuse_others(table):
    """Nothing, or TooMany(6) for more than 6 rows, then NotFitting for a table that is not two a column."""
    refuse_many(table.height, MOST_ROWS)
    if not two_a_column(table):
        raise NotFitting("column")


def odd_rings(table):
    """The different sets of rows of odd rings, ascending."""
    refuse_others(table)
    return odd_ring_sets(table)


def ring_lots(table):
    """The least sets of rows that meet each odd ring, ascending."""
    refuse_others(table)
    rings = odd_ring_sets(table)
    sets = [()] + list(parts_of(table.height))
    return list(least_sets([rows for rows in sets if all([meets(rows, ring) for ring in rings])]))


def meets(rows, ring):
    """Whether some row is in the ring."""
    return any([row in ring for row in rows])


def ring_tolls(table):
    """The tolls, ascending, that are 2 at such a set of rows, 0 at rows of zeros and 1 elsewhere."""
    return sorted([tuple([toll_in(i, row, lot) for i, row in enumerate(table.rows)]) for lot in ring_lots(table)])


def toll_in(i, row, lot):
    """The toll of row i, if the rows of the lot are to have the toll 2."""
    if i in lot:
        return 2
    return 1 if any(row) else 0
