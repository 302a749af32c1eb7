"""Stretches: rows of integers of which only the least and the greatest number in each column are known."""

from splitnumbers.errors import BadStretch
from splitnumbers.kinds import is_listing, refuse_many, wrong_integer
from splitnumbers.numbers import dot_of, numbers_of
from splitnumbers.signs import contrary, signs_from

MOST_WORLDS = 200


def is_stretch(pair):
    """Whether the pair is a list or tuple (low, high) of integers with low <= high."""
    return wrong_integer(pair) is None and len(pair) == 2 and pair[0] <= pair[1]


def refuse_pairs(pairs):
    """Nothing, or BadStretch for what is no list or tuple of stretches."""
    if not is_listing(pairs):
        raise BadStretch(-1)
    for place, pair in enumerate(pairs):
        if not is_stretch(pair):
            raise BadStretch(place)


class Stretches:
    """A stretch from a low to a high integer for each column."""

    def __init__(self, pairs):
        refuse_pairs(pairs)
        self.lows = tuple([pair[0] for pair in pairs])
        self.highs = tuple([pair[1] for pair in pairs])

    def __len__(self):
        return len(self.lows)

    def __eq__(self, other):
        return isinstance(other, Stretches) and self.lows == other.lows and self.highs == other.highs

    def agrees(self, row):
        """Whether a row of numbers lies within the stretches."""
        numbers = numbers_of(row, len(self.lows))
        for top, low, high in zip(numbers.tops, self.lows, self.highs):
            if not low * numbers.bottom <= top <= high * numbers.bottom:
                return False
        return True

    def world_count(self):
        """The number of worlds."""
        count = 1
        for low, high in zip(self.lows, self.highs):
            count = count * (high - low + 1)
        return count

    def end_world(self, signs):
        """The world with high where the signs are 1, and low elsewhere."""
        marks = signs_from(signs, len(self.lows))
        return tuple([high if mark == 1 else low for mark, low, high in zip(marks, self.lows, self.highs)])

    def reach(self, signs):
        """The least and the greatest sum of the signs over all worlds."""
        marks = signs_from(signs, len(self.lows))
        least = dot_of(marks, self.end_world(contrary(marks)))
        return (least, dot_of(marks, self.end_world(marks)))


def worlds_of(stretches):
    """All worlds, ascending."""
    refuse_many(stretches.world_count(), MOST_WORLDS)
    worlds = [()]
    for low, high in zip(stretches.lows, stretches.highs):
        worlds = [world + (number,) for world in worlds for number in range(low, high + 1)]
    yield from worlds
