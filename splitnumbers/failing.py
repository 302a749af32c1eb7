"""The parts that fail when one row of integers below a firm table has too low a toll."""

from splitnumbers.kinds import number_from
from splitnumbers.lones import worth_of
from splitnumbers.lonesums import firm_lones
from splitnumbers.numbers import integers_of
from splitnumbers.sets import least_sets
from splitnumbers.signs import part_of


def failing_lones(table, row, toll):
    """The parts of lone splits with a worth above the toll that hold no other such part, smaller ones first."""
    integers = integers_of(row, table.columns)
    bound = number_from(toll, 0, "toll")
    parts = [part_of(signs) for signs in firm_lones(table) if worth_of(integers, signs) > bound]
    return sorted(least_sets(parts), key=lambda part: (len(part), part))


def fails_at(table, row, toll):
    """Whether the tolls 1, .., 1 and this one do not serve the table with the row below it."""
    return len(failing_lones(table, row, toll)) > 0
