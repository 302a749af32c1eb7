"""Firm tables: those that the tolls 1, .., 1 serve."""

from splitnumbers.errors import NotFirm
from splitnumbers.kinds import refuse_many
from splitnumbers.searching import MOST_GONE_THROUGH, half_splits
from splitnumbers.sets import holds, parts_of
from splitnumbers.tolls import failing_part

MOST_ROWS = 6


def ones_of(table):
    """The tolls 1, .., 1."""
    return (1,) * table.height


def unfirm_part(table):
    """The first part without a split at tolls 1, None if there is none."""
    return failing_part(table, ones_of(table))


def is_firm(table):
    """Whether each part has a split at tolls 1."""
    return unfirm_part(table) is None


def firm_halves(table):
    """For each part that is not empty its splits at tolls 1 with -1 at its first column; the firm errors.

    One way through the parts tells all that is asked of a firm table: its lone splits and its pairs, too.
    """
    refuse_many(table.columns, MOST_GONE_THROUGH)
    ones = ones_of(table)
    halves = []
    for part in parts_of(table.columns):
        half = half_splits(table, ones, part)
        if len(half) == 0:
            raise NotFirm(part)
        halves.append(half)
    return halves


def firm_lots(table):
    """The sets of rows that are firm tables and lie in no other such set, ascending."""
    refuse_many(table.columns, MOST_GONE_THROUGH)
    refuse_many(table.height, MOST_ROWS)
    sets = [()] + list(parts_of(table.height))
    lots = []
    for rows in sets[::-1]:
        # What may hold a set has more rows and has been gone through before it.
        if not any([holds(lot, rows) for lot in lots]) and is_firm(table.lot(rows, list(range(table.columns)))):
            lots.append(rows)
    return sorted(lots)


def least_loose(table):
    """The least number of loose rows over all tolls that serve."""
    return table.height - max([len(lot) for lot in firm_lots(table)])
