"""Tables at which the facts on two loose rows fail for three, and one whose mixes need less than its splits."""

from splitnumbers.tables import Table


def three_columns():
    """Tolls that serve all of its lots of three columns need not serve it."""
    return Table([(2, 2, 2, 0), (-2, 4, -2, 1), (-2, -2, 4, -1)])


def three_halves():
    """Half of its serving tolls is too little for some shares."""
    return Table([(2, 0), (0, 2), (2, 2)])


def nine_table():
    """Its determinant is above the product of its serving tolls."""
    return Table([(1, 1, 1), (-1, 2, -1), (-1, -1, 2)])


def mix_table():
    """Mixes of roundings stay below tolls that do not serve it."""
    return Table([(3, 3), (3, -3)])
