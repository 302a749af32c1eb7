"""The errors of calls over firm tables: each argument wrong in turn, with wrong ones behind it, then the table."""

from makers import WRONG_INTEGERS, WRONG_KINDS, error_of
from splitnumbers.numbers import Numbers
from splitnumbers.stretches import Stretches
from splitnumbers.tables import Table

UNFIRM = Table([(1, 1), (1, -1)])


def wrong_rows(count):
    """Wrong rows of integers for so many columns, with their errors."""
    for wrong in WRONG_KINDS + (Numbers([1] * count, 2),):
        yield wrong, ("BadNumbers", -1)
    for wrong in WRONG_INTEGERS:
        yield [1, wrong, None], ("BadNumbers", 1)
    for row in ((), (1,) * (count - 1), [1] * (count + 1), Numbers([1])):
        yield row, ("OtherSize", count)


def wrong_shares(count):
    for wrong in WRONG_KINDS:
        yield wrong, ("BadShares", -1)
    for wrong in (None, True, (1, 0), (3, 2), -1, "1", (1, 2, 3)):
        yield [0, wrong, None], ("BadShares", 1)
    yield Numbers([0, -1]), ("BadShares", 1)
    for shares in ((), (1,) * (count - 1), Numbers([1] * (count + 1), 2)):
        yield shares, ("OtherSize", count)


def wrong_parts(count):
    for wrong in WRONG_KINDS:
        yield wrong, ("BadSet", -1)
    for wrong in WRONG_INTEGERS + (-1, count, 0):
        yield [0, wrong, None], ("BadSet", 1)


def wrong_signs(count):
    for wrong in WRONG_KINDS + (Numbers([0] * count),):
        yield wrong, ("BadSigns", -1)
    for wrong in WRONG_INTEGERS + (2, -2):
        yield [1, wrong, None], ("BadSigns", 1)
    for signs in ((), (1,) * (count - 1), [0] * (count + 1)):
        yield signs, ("OtherSize", count)


def wrong_numbers(word, low):
    for wrong in WRONG_INTEGERS + (low - 1, -5):
        yield wrong, ("BadNumber", word)


def wrong_stretches(count):
    """Stretches of another length: nothing is promised for what is none."""
    for other in (0, count - 1, count + 1):
        yield Stretches([(0, 1)] * other), ("OtherSize", count)


def wrong_budgets():
    for wrong in (None, True, "1", 1.0, (1, 0), (1, -2), (1, 2, 3), [1], (1, None)):
        yield wrong, ("BadRatio", "budget")


def wrongs_of(kind, count):
    """Wrong values of a kind, with their errors."""
    if kind == "stretches":
        return wrong_stretches(count)
    if kind == "budget":
        return wrong_budgets()
    if kind == "row":
        return wrong_rows(count)
    if kind == "shares":
        return wrong_shares(count)
    if kind == "part":
        return wrong_parts(count)
    if kind == "signs":
        return wrong_signs(count)
    return wrong_numbers(kind, 0 if kind == "toll" else 1)


def good_one(kind, count):
    """A right value of a kind: rows of zeros, whose tolls are 0."""
    if kind == "stretches":
        return Stretches([(0, 0)] * count)
    return {"part": (0,), "toll": 0, "first": 1, "second": 1, "budget": 0}.get(kind, (0,) * count)


def check_calls(test, call, kinds, limit=7):
    """Whether the call raises the errors of its arguments behind the table, TooMany(limit) and NotFirm, in this order."""
    wide = Table.zeros(1, limit + 1)
    for at, kind in enumerate(kinds):
        ahead = [good_one(other, wide.columns) for other in kinds[:at]]
        behind = [None] * (len(kinds) - at - 1)
        for wrong, error in wrongs_of(kind, wide.columns):
            test.assertEqual(error_of(call, wide, *ahead, wrong, *behind), error, (kind, wrong))
    test.assertEqual(error_of(call, wide, *[good_one(kind, wide.columns) for kind in kinds]), ("TooMany", limit))
    test.assertEqual(error_of(call, Table([(2,) * 12]), *[good_one(kind, 12) for kind in kinds]), ("TooMany", limit))
    for table, part in ((UNFIRM, (0, 1)), (Table([(1, 2, 1)]), (1,)), (Table([(1, 1, 0, 1)] + [(1, 0, 0, -1)] * 11), (0, 3))):
        for chosen in ("zeros", "list"):
            values = [good_one(kind, table.columns) for kind in kinds]
            if chosen == "list":
                values = [list(value) if isinstance(value, tuple) else value for value in values]
            test.assertEqual(error_of(call, table, *values), ("NotFirm", part))
    for table in (Table.zeros(0, 1), Table.chain(limit), Table.zeros(12, limit)):
        test.assertIsNone(error_of(call, table, *[good_one(kind, table.columns) for kind in kinds]))
