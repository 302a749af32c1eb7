"""What all files ask of the values that are handed in: their kind, their range, their number."""

from splitnumbers.errors import BadNumber, BadSpot, TooMany


def is_integer(value):
    """True and False are no integers here."""
    return isinstance(value, int) and not isinstance(value, bool)


def is_from(value, low, high):
    """Whether value is an integer from low to high."""
    return is_integer(value) and low <= value <= high


def is_listing(value):
    """Whether value is a list or a tuple."""
    return isinstance(value, (list, tuple))


def wrong_integer(values, low=None, high=None):
    """The first place of values without an integer from low to high, -1 for no list or tuple, None if there is none."""
    if not is_listing(values):
        return -1
    for place, value in enumerate(values):
        if not is_integer(value) or (low is not None and value < low) or (high is not None and value > high):
            return place
    return None


def wrong_row(rows, most=None):
    """The first row of rows that is no row of integers as long as row 0 or has the place most; as wrong_integer."""
    if not is_listing(rows):
        return -1
    for place, row in enumerate(rows):
        if place == most or wrong_integer(row) is not None or len(row) != len(rows[0]):
            return place
    return None


def spot_of(value, count, word):
    """An integer from 0 to count - 1; BadSpot(word) for anything else."""
    if not is_from(value, 0, count - 1):
        raise BadSpot(word)
    return value


def number_from(value, low, word):
    """An integer of at least low; BadNumber(word) for anything else."""
    if not is_integer(value) or value < low:
        raise BadNumber(word)
    return value


def refuse_many(count, limit):
    """Nothing, or TooMany(limit)."""
    if count > limit:
        raise TooMany(limit)
