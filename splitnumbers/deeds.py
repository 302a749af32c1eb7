"""Deeds: what can be done to a table and its tolls, and the texts of deeds."""

from splitnumbers.errors import BadDeed, BadText
from splitnumbers.kinds import is_integer, is_listing, wrong_integer
from splitnumbers.numbers import Numbers
from splitnumbers.tabletexts import is_numeral

# How many entries each kind of deed has.
LENGTHS = {
    "row": 4, "column": 3, "drop row": 2, "drop column": 2, "turn row": 2, "turn column": 2, "number": 4, "toll": 3
}
# The kinds with a row or a column as second entry.
WITH_LINE = ("row", "column")


def line_or_none(value):
    """A row of integers as a tuple, None if it is none."""
    numbers = value.tops if isinstance(value, Numbers) and value.is_whole else value
    return tuple(numbers) if wrong_integer(numbers) is None else None


def deed_of(value):
    """The deed as a tuple, its row or column as a tuple."""
    if not is_listing(value) or len(value) == 0 or not isinstance(value[0], str) or value[0] not in LENGTHS:
        raise BadDeed("kind")
    if len(value) != LENGTHS[value[0]]:
        raise BadDeed("length")
    entries = list(value)
    numbers = entries[1:]
    if value[0] in WITH_LINE:
        entries[1] = line_or_none(value[1])
        numbers = entries[2:]
    if entries[1] is None or not all([is_integer(number) for number in numbers]):
        raise BadDeed("number")
    return tuple(entries)


def words_of(deed):
    """The words of a deed's text behind its colon."""
    if deed[0] not in WITH_LINE:
        return [str(number) for number in deed[1:]]
    words = [str(number) for number in deed[1]] + ["at", str(deed[2])]
    return words + ["toll", str(deed[3])] if deed[0] == "row" else words


def deed_text(deed):
    """The text of a deed."""
    told = deed_of(deed)
    return " ".join([told[0] + ":"] + words_of(told))


def deed_with(kind, numbers):
    """The deed of this kind with these numbers in a row, None if they are too few or too many."""
    if kind not in LENGTHS:
        return None
    alone = LENGTHS[kind] - 1
    if kind not in WITH_LINE:
        return (kind,) + tuple(numbers) if len(numbers) == alone else None
    ahead = len(numbers) - (alone - 1)
    return (kind, tuple(numbers[:ahead])) + tuple(numbers[ahead:]) if ahead >= 0 else None


def deed_in(text):
    """A deed with the kind and the numbers of a text, None if there is none."""
    kind, _, rest = text.partition(": ")
    words = [word for word in rest.split(" ") if word not in ("at", "toll")]
    if not all([is_numeral(word) for word in words]):
        return None
    return deed_with(kind, [int(word) for word in words])


def deed_from(text):
    """The deed whose text this is."""
    deed = deed_in(text) if isinstance(text, str) else None
    # Words that stand at a wrong place show when the deed is written.
    if deed is None or deed_text(deed) != text:
        raise BadText(1, "deed")
    return deed
