"""Desks: a table and its tolls that change deed by deed."""

from splitnumbers.blocks import blocks_of
from splitnumbers.bounds import square_bound
from splitnumbers.deeds import deed_of
from splitnumbers.doings import done
from splitnumbers.errors import BadDeed, BadNumber, BadTable, NothingBack
from splitnumbers.firmness import is_firm
from splitnumbers.kinds import is_from
from splitnumbers.lones import lone_splits, toll_of_row
from splitnumbers.nearest import near_rounding
from splitnumbers.tables import Table
from splitnumbers.tolls import failing_part, loose_rows, serves, tolls_of


class Desk:
    """A table, its tolls and the deeds that led there.

    The history holds (deed, table, tolls), with the table and the tolls behind the deed; no deed stands in its first
    entry. It is never changed, only replaced: so who keeps it can bring all of it back at once.
    """

    def __init__(self, table, tolls, *, name=""):
        if not isinstance(table, Table):
            raise BadTable(-1)
        due = tolls_of(tolls, table.height)
        if not isinstance(name, str):
            raise BadDeed("name")
        self.name = name
        self.history = ((None, table, due),)

    @property
    def table_now(self):
        """The table after all deeds."""
        return self.history[-1][1]

    @property
    def tolls(self):
        """The tolls after all deeds."""
        return self.history[-1][2]

    @property
    def deeds(self):
        """The deeds, oldest first."""
        return tuple([entry[0] for entry in self.history[1:]])

    def do(self, deed):
        """Does a deed."""
        told = deed_of(deed)
        table, tolls = done(self.table_now, self.tolls, told)
        self.history = self.history + ((told, table, tolls),)

    def put_row(self, row, place=None, toll=1):
        """Puts in a row with its toll, last for the place None."""
        self.do(("row", row, self.table_now.height if place is None else place, toll))

    def put_column(self, column, place=None):
        """Puts in a column, last for the place None."""
        self.do(("column", column, self.table_now.columns if place is None else place))

    def drop_row(self, i):
        """Takes out a row with its toll."""
        self.do(("drop row", i))

    def drop_column(self, j):
        """Takes out a column."""
        self.do(("drop column", j))

    def turn_row(self, i):
        """Changes the signs in a row."""
        self.do(("turn row", i))

    def turn_column(self, j):
        """Changes the signs in a column."""
        self.do(("turn column", j))

    def set_number(self, i, j, value):
        """Changes a number of the table."""
        self.do(("number", i, j, value))

    def set_toll(self, i, value):
        """Changes a toll."""
        self.do(("toll", i, value))

    def set_tolls(self, tolls):
        """Changes those tolls that are others now, one after another."""
        due = tolls_of(tolls, self.table_now.height)
        for i, value in enumerate(due):
            if value != self.tolls[i]:
                self.set_toll(i, value)

    def back(self):
        """Takes the last deed back and tells it."""
        if len(self.history) == 1:
            raise NothingBack()
        last = self.history[-1][0]
        self.history = self.history[:-1]
        return last

    def back_to(self, count):
        """Takes deeds back until count deeds are left, and tells them, newest first."""
        if not is_from(count, 0, len(self.history) - 1):
            raise BadNumber("count")
        taken = self.deeds[count:]
        self.history = self.history[:count + 1]
        return taken[::-1]

    def copy(self):
        """A new desk with the same table, tolls, deeds and name."""
        other = Desk(self.table_now, self.tolls, name=self.name)
        other.history = self.history
        return other

    def serving(self):
        """Whether the tolls serve the table."""
        return serves(self.table_now, self.tolls)

    def failing(self):
        """The first part that fails, None if the tolls serve."""
        return failing_part(self.table_now, self.tolls)

    def lones(self):
        """The leading lone splits, ascending."""
        return lone_splits(self.table_now, self.tolls)

    def firm(self):
        """Whether the table is firm."""
        return is_firm(self.table_now)

    def loose(self):
        """The set of the loose rows."""
        return loose_rows(self.tolls)

    def room_for(self, row):
        """The least toll of a further row."""
        return toll_of_row(self.table_now, self.tolls, row)

    def near(self, shares):
        """The first firm rounding that is nearest to the shares."""
        return near_rounding(self.table_now, self.tolls, shares)

    def bound(self, rows):
        """The bound for determinants of square parts with these rows."""
        return square_bound(self.tolls, rows)

    def blocks(self):
        """The blocks of the table."""
        return blocks_of(self.table_now)
