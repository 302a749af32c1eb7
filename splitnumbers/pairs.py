"""Pairs of lone splits beside one another, whose part has no splits but their sums and differences."""

from splitnumbers.firmness import firm_halves
from splitnumbers.signs import made_leading, signs_from


def pair_of(half):
    """The pair of a part with two splits that are -1 at its first column: half of their sum and of their difference."""
    one, other = half
    first = tuple([-(mark + more) // 2 for mark, more in zip(one, other)])
    return (first, made_leading([(mark - less) // 2 for mark, less in zip(one, other)]))


def pairs_among(halves):
    """All pairs, ascending, from what firm_halves tells."""
    return sorted([pair_of(half) for half in halves if len(half) == 2])


def pairs_of(table):
    """All pairs (u, v), the first column of u before that of v, ascending."""
    return pairs_among(firm_halves(table))


def is_pair(table, one, other):
    """Whether both are leading lone splits and a pair, in either order."""
    signs = signs_from(one, table.columns)
    more = signs_from(other, table.columns)
    pairs = pairs_of(table)
    return (signs, more) in pairs or (more, signs) in pairs
