"""Weights of columns that fill a room with the greatest gain, or prices which show that none do."""

from splitnumbers.errors import BadRows
from splitnumbers.kinds import wrong_row
from splitnumbers.numbers import dot_of, integers_of, ratio_row
from splitnumbers.ratios import lowest


class Tableau:
    """Equations in integers: the numbers of the columns, then those of one unit column for each line, then the room's.

    All of them stand over one scale, so that no fractions are needed. Each line has a column of its own, in
    the list own, with the scale in this line and 0 in all others. Lines are turned so that the room is at least 0.
    """

    def __init__(self, columns, room):
        self.width = len(columns)
        self.scale = 1
        self.turns = [-1 if top < 0 else 1 for top in room]
        self.lines = []
        for i, turn in enumerate(self.turns):
            unit = [1 if k == i else 0 for k in range(len(room))]
            self.lines.append([turn * column[i] for column in columns] + unit + [turn * room[i]])
        self.own = list(range(self.width, self.width + len(room)))

    def pivot(self, at, place):
        """Makes the column at the place the own one of a line, in which its number is above 0."""
        line = self.lines[at]
        top = line[place]
        lines = []
        for i, old in enumerate(self.lines):
            if i == at:
                lines.append(old)
            else:
                lines.append([(top * number - old[place] * other) // self.scale for number, other in zip(old, line)])
        self.lines = lines
        self.scale = top
        self.own[at] = place

    def surplus(self, gains):
        """What the prices of the own columns ask above the gain, for each column, and for the room at last."""
        kept = [gains[place] for place in self.own]
        totals = [dot_of(kept, entries) for entries in zip(*self.lines)]
        return [total - gain * self.scale for total, gain in zip(totals, gains + [0])]

    def leaving(self, place):
        """The line that bounds the column at the place most closely, None if no line bounds it."""
        best = None
        for i, line in enumerate(self.lines):
            if line[place] > 0 and (best is None or self.is_closer(i, best, place)):
                best = i
        return best

    def is_closer(self, one, other, place):
        """Whether line one bounds the column more closely than line other; among equal ones the lesser own column."""
        less = self.lines[one][-1] * self.lines[other][place]
        more = self.lines[other][-1] * self.lines[one][place]
        return less < more or (less == more and self.own[one] < self.own[other])

    def climb(self, gains):
        """Pivots until no column has a gain above its price; tells the surplus then."""
        surplus = self.surplus(gains)
        # Always the first column and the lesser own column: so no circle can come up.
        place = first_below_zero(surplus[:self.width])
        while place is not None:
            at = self.leaving(place)
            if at is None:
                # The gain has no greatest value, and nothing is promised for that.
                return surplus
            self.pivot(at, place)
            surplus = self.surplus(gains)
            place = first_below_zero(surplus[:self.width])
        return surplus

    def free_units(self):
        """Takes the unit columns out of the own ones, but for lines that only repeat other ones."""
        for at in range(len(self.lines)):
            line = self.lines[at]
            place = first_not_zero(line[:self.width])
            if self.own[at] >= self.width and place is not None:
                if line[place] < 0:
                    self.lines[at] = [-number for number in line]
                self.pivot(at, place)

    def filling(self):
        """The weights of the columns that fill the room, over the scale."""
        weights = [0] * self.width
        for place, line in zip(self.own, self.lines):
            if place < self.width:
                weights[place] = line[-1]
        return weights

    def prices(self, surplus, gain):
        """The room prices for a surplus that unit columns of this gain have."""
        units = surplus[self.width:-1]
        return tuple([lowest(turn * (top + gain * self.scale), self.scale) for turn, top in zip(self.turns, units)])


def first_below_zero(numbers):
    """The first place of a number below 0, None if there is none."""
    for place, number in enumerate(numbers):
        if number < 0:
            return place
    return None


def first_not_zero(numbers):
    """The first place of a number other than 0, None if there is none."""
    for place, number in enumerate(numbers):
        if number != 0:
            return place
    return None


def refuse_columns(columns):
    """Nothing, or BadRows for columns that are not at least one of equal length, at least 1."""
    wrong = wrong_row(columns)
    if wrong != -1 and len(columns) == 0:
        wrong = -1
    elif wrong not in (-1, 0) and len(columns[0]) == 0:
        wrong = 0
    if wrong is not None:
        raise BadRows(wrong)


def solve(columns, room, gains):
    """(word, total, weights, prices): "best" with weights of the greatest gain, or "none" with prices alone."""
    refuse_columns(columns)
    row = ratio_row(room, len(columns[0]))
    gain = list(integers_of(gains, len(columns)))
    units = len(row)
    tableau = Tableau(columns, row.tops)
    # At first the units fill the room, and each of them costs 1: are they needed?
    surplus = tableau.climb([0] * len(columns) + [-1] * units)
    if surplus[-1] < 0:
        return ("none", None, None, tableau.prices(surplus, -1))
    tableau.free_units()
    surplus = tableau.climb(gain + [0] * units)
    bottom = tableau.scale * row.bottom
    weights = tuple([lowest(top, bottom) for top in tableau.filling()])
    return ("best", lowest(surplus[-1], bottom), weights, tableau.prices(surplus, 0))


def spare_column(length, place):
    """A column that fills nothing but one place."""
    return (0,) * place + (1,) + (0,) * (length - place - 1)


def solve_within(columns, bounded, room, gains):
    """As solve, but the last places, as many as bounded tells, may be filled less than the room says."""
    length = len(columns[0])
    spare = [spare_column(length, place) for place in range(length - bounded, length)]
    word, total, weights, prices = solve(columns + spare, room, gains + [0] * bounded)
    return (word, total, None if weights is None else weights[:len(columns)], prices)
