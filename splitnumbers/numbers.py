"""Rows of numbers: ratios over one bottom, and the rows of numbers, integers and shares that are handed in."""

from math import gcd, lcm

from splitnumbers.errors import BadNumber, BadNumbers, BadShares, OtherSize
from splitnumbers.kinds import is_from, is_integer, is_listing, spot_of, wrong_integer
from splitnumbers.ratios import lowest, ratio_called, ratio_or_none


def dot_of(one, other):
    """The sum of the products of two rows of integers, place by place."""
    return sum([number * factor for number, factor in zip(one, other)])


def ratios_in(values):
    """The entries of a list or tuple as ratios; BadNumbers if one is none."""
    if not is_listing(values):
        raise BadNumbers(-1)
    ratios = [ratio_or_none(value) for value in values]
    if None in ratios:
        raise BadNumbers(ratios.index(None))
    return ratios


def bottom_of(ratios):
    """The least bottom over which all of the ratios can be written."""
    common = 1
    for ratio in ratios:
        common = lcm(common, ratio[1])
    return common


def tops_over(bottom, ratios):
    """The tops of the ratios over a bottom that is a multiple of theirs."""
    return [top * (bottom // under) for top, under in ratios]


class Numbers:
    """A row of ratios: tops over one bottom, in lowest terms as a whole."""

    def __init__(self, tops, bottom=1):
        wrong = wrong_integer(tops)
        if wrong is not None:
            raise BadNumbers(wrong)
        if not is_integer(bottom) or bottom < 1:
            raise BadNumber("bottom")
        common = bottom
        for top in tops:
            common = gcd(common, top)
        self.bottom = bottom // common
        self.tops = tuple([top // common for top in tops])
        self.ratios = tuple([lowest(top // common, bottom // common) for top in tops])

    @classmethod
    def of_ratios(cls, ratios):
        """The row of a list or tuple of ratios."""
        entries = ratios_in(ratios)
        bottom = bottom_of(entries)
        return cls(tops_over(bottom, entries), bottom)

    @staticmethod
    def common_bottom(ratios):
        """The least integer of at least 1 over which all of the ratios can be written."""
        return bottom_of(ratios_in(ratios))

    @property
    def is_whole(self):
        """Whether all entries are integers."""
        return self.bottom == 1

    def __add__(self, other):
        if not isinstance(other, Numbers):
            return NotImplemented
        if len(other.tops) != len(self.tops):
            raise OtherSize(len(self.tops))
        tops = [top * other.bottom + more * self.bottom for top, more in zip(self.tops, other.tops)]
        return Numbers(tops, self.bottom * other.bottom)

    def __sub__(self, other):
        if not isinstance(other, Numbers):
            return NotImplemented
        if len(other.tops) != len(self.tops):
            raise OtherSize(len(self.tops))
        tops = [top * other.bottom - less * self.bottom for top, less in zip(self.tops, other.tops)]
        return Numbers(tops, self.bottom * other.bottom)

    def __neg__(self):
        return Numbers([-top for top in self.tops], self.bottom)

    def __mul__(self, other):
        if not is_integer(other):
            return NotImplemented
        return Numbers([top * other for top in self.tops], self.bottom)

    def __rmul__(self, other):
        if not is_integer(other):
            return NotImplemented
        return Numbers([top * other for top in self.tops], self.bottom)

    def __eq__(self, other):
        return isinstance(other, Numbers) and self.tops == other.tops and self.bottom == other.bottom

    def __len__(self):
        return len(self.tops)

    def __getitem__(self, at):
        if not is_from(at, 0, len(self.tops) - 1):
            raise IndexError("no entry has this place")
        return self.ratios[at]

    def __iter__(self):
        return iter(self.ratios)

    def dot(self, other):
        """The ratio of the sum of the products with a row of numbers."""
        numbers = numbers_of(other, len(self.tops))
        return lowest(dot_of(self.tops, numbers.tops), self.bottom * numbers.bottom)

    def scaled(self, value):
        """The row times a ratio."""
        top, bottom = ratio_called(value, "value")
        return Numbers([number * top for number in self.tops], self.bottom * bottom)

    def greatest_size(self):
        """The greatest size of an entry, zero for no entry."""
        return lowest(max([0] + [abs(top) for top in self.tops]), self.bottom)

    def placed(self, place, value):
        """The row with a ratio at the place."""
        at = spot_of(place, len(self.tops), "place")
        ratio = ratio_called(value, "value")
        return Numbers.of_ratios(self.ratios[:at] + (ratio,) + self.ratios[at + 1:])


def of_length(row, length):
    """The row, if it has the length that is due; else OtherSize."""
    if len(row) != length:
        raise OtherSize(length)
    return row


def numbers_of(value, length):
    """A row of numbers that is handed in, as a Numbers object."""
    numbers = value if isinstance(value, Numbers) else Numbers(value)
    return of_length(numbers, length)


def integers_of(value, length):
    """A row of integers that is handed in, as a tuple."""
    if isinstance(value, Numbers) and not value.is_whole:
        raise BadNumbers(-1)
    return numbers_of(value, length).tops


def ratio_row(value, length):
    """A row of ratios that is handed in as a Numbers object or as a list or tuple, as a Numbers object."""
    numbers = value if isinstance(value, Numbers) else Numbers.of_ratios(value)
    return of_length(numbers, length)


def any_shares(value):
    """A row of shares of any length that is handed in, as a Numbers object."""
    entries = value.ratios if isinstance(value, Numbers) else value
    if not is_listing(entries):
        raise BadShares(-1)
    shares = []
    for place, entry in enumerate(entries):
        ratio = ratio_or_none(entry)
        if ratio is None or not 0 <= ratio[0] <= ratio[1]:
            raise BadShares(place)
        shares.append(ratio)
    return Numbers.of_ratios(shares)


def shares_of(value, length):
    """A row of shares that is handed in, as a Numbers object."""
    return of_length(any_shares(value), length)
