"""Mixes: different tuples of integers with weights above 0 that add up to 1."""

from splitnumbers.errors import BadMix, OtherSize
from splitnumbers.kinds import is_from, is_listing, wrong_integer
from splitnumbers.numbers import Numbers, dot_of, numbers_of, shares_of
from splitnumbers.ratios import lowest, ratio_called, ratio_or_none
from splitnumbers.signs import part_of


def entry_of(entry):
    """A pair (tuple, weight above 0) that is handed in, None if it is no such pair."""
    if not is_listing(entry) or len(entry) != 2:
        return None
    numbers, value = entry
    weight = ratio_or_none(value)
    if wrong_integer(numbers) is not None or weight is None or weight[0] <= 0:
        return None
    return (tuple(numbers), weight)


def entries_of(entries):
    """The entries of a mix in the order in which they are handed in."""
    if not is_listing(entries) or len(entries) == 0:
        raise BadMix(-1)
    kept = []
    seen = set()
    for place, value in enumerate(entries):
        entry = entry_of(value)
        if entry is None or entry[0] in seen or (kept and len(entry[0]) != len(kept[0][0])):
            raise BadMix(place)
        kept.append(entry)
        seen.add(entry[0])
    weights = Numbers.of_ratios([weight for _, weight in kept])
    if sum(weights.tops) != weights.bottom:
        raise BadMix(-1)
    return kept


class Mix:
    """A mix of tuples of integers of one length."""

    KIND = "mix"

    def __init__(self, entries):
        self.entries = tuple(sorted(entries_of(entries)))
        self.weights = Numbers.of_ratios([weight for _, weight in self.entries])

    @classmethod
    def even(cls, tuples):
        """The mix of the tuples with equal weights."""
        if not is_listing(tuples):
            raise BadMix(-1)
        entries = [(numbers, (1, len(tuples))) for numbers in tuples]
        return cls(entries)

    @property
    def size(self):
        """The length of the tuples."""
        return len(self.entries[0][0])

    def __len__(self):
        return len(self.entries)

    def __iter__(self):
        return iter(self.entries)

    def __eq__(self, other):
        return isinstance(other, Mix) and self.KIND == other.KIND and self.entries == other.entries

    def means(self):
        """The row of the weighted sums of the tuples, place by place."""
        tops = []
        for place in range(self.size):
            tops.append(dot_of(self.weights.tops, [numbers[place] for numbers, _ in self.entries]))
        return Numbers(tops, self.weights.bottom)

    def mean_at(self, row):
        """The mean of the products with a row of numbers."""
        return self.means().dot(row)

    def mean_square(self, row, middle=(0, 1)):
        """The mean of the square of the product with a row of numbers less the ratio middle."""
        factors = numbers_of(row, self.size)
        top, bottom = ratio_called(middle, "middle")
        lefts = [dot_of(factors.tops, numbers) * bottom - top * factors.bottom for numbers, _ in self.entries]
        under = factors.bottom * bottom
        return lowest(dot_of(self.weights.tops, [left * left for left in lefts]), self.weights.bottom * under * under)


class RoundingMix(Mix):
    """A mix of tuples of 0 and 1."""

    KIND = "roundings"

    def __init__(self, entries):
        Mix.__init__(self, entries)
        for place, (numbers, _) in enumerate(entries):
            if not all([is_from(number, 0, 1) for number in numbers]):
                raise BadMix(place)

    def greatest_miss(self, table, shares):
        """For each row of the table the greatest size of its sum of a tuple less the shares."""
        row = shares_of(shares, table.columns)
        if self.size != table.columns:
            raise OtherSize(table.columns)
        steps = [[number * row.bottom - top for number, top in zip(numbers, row.tops)] for numbers, _ in self.entries]
        sizes = [max([abs(dot_of(line, step)) for step in steps]) for line in table.rows]
        return tuple([lowest(size, row.bottom) for size in sizes])


class SignMix(Mix):
    """A mix of signs of one part."""

    KIND = "signs"

    def __init__(self, entries):
        Mix.__init__(self, entries)
        part = part_of(entries[0][0])
        for place, (numbers, _) in enumerate(entries):
            if not all([is_from(number, -1, 1) for number in numbers]) or part_of(numbers) != part:
                raise BadMix(place)

    def signed_part(self):
        """The part of all of the signs."""
        return part_of(self.entries[0][0])
