"""Tables of integers, with at most 12 rows and 12 columns."""

from splitnumbers.errors import BadNumber, BadRows, BadSet, OtherSize
from splitnumbers.kinds import is_from, is_integer, spot_of, wrong_integer, wrong_row
from splitnumbers.numbers import Numbers, dot_of, integers_of, numbers_of
from splitnumbers.sets import set_of

MOST = 12


def number_up_to_most(value, low, word):
    """An integer from low to 12; BadNumber(word) for anything else."""
    if not is_from(value, low, MOST):
        raise BadNumber(word)
    return value


def refuse_more(count, word):
    """Nothing, or BadNumber(word) for more than 12."""
    if count > MOST:
        raise BadNumber(word)


def place_to_put(place, count):
    """Where to put something new among count things: the place, or the end for None."""
    if place is None:
        return count
    return spot_of(place, count + 1, "place")


def put_in(entries, place, entry):
    """A tuple with the entry ahead of the one at the place."""
    return entries[:place] + (entry,) + entries[place:]


def taken_out(entries, place):
    """A tuple without the entry at the place."""
    return entries[:place] + entries[place + 1:]


def order_of(places, count):
    """All count places in the order that is handed in."""
    if len(set_of(places, count)) != count:
        raise BadSet(-1)
    return tuple(places)


class Table:
    """A table: rows of integers of one length. A table without rows has a number of columns all the same."""

    def __init__(self, rows, *, columns=None):
        wrong = wrong_row(rows, MOST)
        if wrong is not None:
            raise BadRows(wrong)
        width = number_up_to_most(len(rows[0]) if rows else columns, 1, "columns")
        if columns is not None and (not is_integer(columns) or columns != width):
            raise BadNumber("columns")
        self.rows = tuple([tuple(row) for row in rows])
        self.columns = width

    @classmethod
    def zeros(cls, height, columns):
        """The table of zeros."""
        rows = number_up_to_most(height, 0, "height")
        width = number_up_to_most(columns, 1, "columns")
        return cls([(0,) * width] * rows, columns=width)

    @classmethod
    def unit(cls, count):
        """1 where row and column agree, else 0."""
        size = number_up_to_most(count, 1, "count")
        rows = [[1 if i == j else 0 for j in range(size)] for i in range(size)]
        return cls(rows)

    @classmethod
    def chain(cls, count):
        """Row i has 1 at column i and -1 at the next one."""
        size = number_up_to_most(count, 1, "count")
        rows = [(0,) * i + (1, -1) + (0,) * (size - i - 2) for i in range(size - 1)]
        return cls(rows, columns=size)

    @property
    def height(self):
        """The number of rows."""
        return len(self.rows)

    def __or__(self, other):
        if not isinstance(other, Table):
            return NotImplemented
        if len(other.rows) != len(self.rows):
            raise OtherSize(len(self.rows))
        refuse_more(self.columns + other.columns, "columns")
        rows = [row + more for row, more in zip(self.rows, other.rows)]
        return Table(rows, columns=self.columns + other.columns)

    def __and__(self, other):
        if not isinstance(other, Table):
            return NotImplemented
        if other.columns != self.columns:
            raise OtherSize(self.columns)
        refuse_more(len(self.rows) + len(other.rows), "rows")
        return Table(self.rows + other.rows, columns=self.columns)

    def __invert__(self):
        if len(self.rows) == 0:
            raise BadNumber("height")
        return Table([[row[j] for row in self.rows] for j in range(self.columns)])

    def __neg__(self):
        return Table([[-number for number in row] for row in self.rows], columns=self.columns)

    def __eq__(self, other):
        return isinstance(other, Table) and self.rows == other.rows and self.columns == other.columns

    def __len__(self):
        return len(self.rows)

    def __getitem__(self, at):
        if not is_from(at, 0, len(self.rows) - 1):
            raise IndexError("no row has this place")
        return self.rows[at]

    def __contains__(self, x):
        return wrong_integer(x) is None and tuple(x) in self.rows

    def __iter__(self):
        return iter(self.rows)

    def __call__(self, numbers):
        """The sums of a row of integers."""
        integers = integers_of(numbers, self.columns)
        return tuple([dot_of(row, integers) for row in self.rows])

    def sums_of(self, numbers):
        """The sums of a row of numbers."""
        factors = numbers_of(numbers, self.columns)
        return Numbers([dot_of(row, factors.tops) for row in self.rows], factors.bottom)

    def column(self, j):
        """Column j as a tuple."""
        at = spot_of(j, self.columns, "column")
        return tuple([row[at] for row in self.rows])

    def lot(self, rows, columns):
        """The table of some rows and some columns."""
        chosen = set_of(rows, len(self.rows))
        places = set_of(columns, self.columns)
        if len(places) == 0:
            raise BadSet(-1)
        return Table([[self.rows[i][j] for j in places] for i in chosen], columns=len(places))

    def with_row(self, row, place=None):
        """The table with one more row, put in ahead of row number place."""
        integers = integers_of(row, self.columns)
        at = place_to_put(place, len(self.rows))
        refuse_more(len(self.rows) + 1, "rows")
        return Table(put_in(self.rows, at, integers), columns=self.columns)

    def with_column(self, column, place=None):
        """The table with one more column, put in ahead of column number place."""
        integers = integers_of(column, len(self.rows))
        at = place_to_put(place, self.columns)
        refuse_more(self.columns + 1, "columns")
        rows = [put_in(row, at, number) for row, number in zip(self.rows, integers)]
        return Table(rows, columns=self.columns + 1)

    def without_row(self, i):
        """The table without row i."""
        at = spot_of(i, len(self.rows), "row")
        return Table(taken_out(self.rows, at), columns=self.columns)

    def without_column(self, j):
        """The table without column j, which must not be the only one."""
        at = spot_of(j, self.columns if self.columns > 1 else 0, "column")
        return Table([taken_out(row, at) for row in self.rows], columns=self.columns - 1)

    def turned_row(self, i):
        """The table with the other signs in row i."""
        return self.times_row(i, -1)

    def turned_column(self, j):
        """The table with the other signs in column j."""
        at = spot_of(j, self.columns, "column")
        rows = [row[:at] + (-row[at],) + row[at + 1:] for row in self.rows]
        return Table(rows, columns=self.columns)

    def times_row(self, i, t):
        """The table with row i times an integer."""
        at = spot_of(i, len(self.rows), "row")
        if not is_integer(t):
            raise BadNumber("t")
        row = tuple([number * t for number in self.rows[at]])
        return Table(put_in(taken_out(self.rows, at), at, row), columns=self.columns)

    def copied(self, j):
        """The table with column j once more, as last one."""
        at = spot_of(j, self.columns, "column")
        refuse_more(self.columns + 1, "columns")
        return Table([row + (row[at],) for row in self.rows], columns=self.columns + 1)

    def exchanged(self, rows, columns):
        """The table whose row k is row rows[k], and so for its columns."""
        order = order_of(rows, len(self.rows))
        places = order_of(columns, self.columns)
        return Table([[self.rows[i][j] for j in places] for i in order], columns=self.columns)
