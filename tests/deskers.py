"""Deeds that the tests make, and what they do to a table and its tolls, plainly."""

from makers import some_numbers, stream
from splitnumbers.tables import Table


def plain_done(table, tolls, deed):
    """The table and the tolls after a deed that is not refused."""
    rows = [list(row) for row in table.rows]
    due = list(tolls)
    columns = table.columns
    kind = deed[0]
    if kind == "row":
        rows.insert(deed[2], list(deed[1]))
        due.insert(deed[2], deed[3])
    elif kind == "column":
        columns += 1
        for row, number in zip(rows, deed[1]):
            row.insert(deed[2], number)
    elif kind == "drop row":
        del rows[deed[1]], due[deed[1]]
    elif kind == "drop column":
        columns -= 1
        for row in rows:
            del row[deed[1]]
    elif kind == "turn row":
        rows[deed[1]] = [-number for number in rows[deed[1]]]
    elif kind == "turn column":
        for row in rows:
            row[deed[1]] *= -1
    elif kind == "number":
        rows[deed[1]][deed[2]] = deed[3]
    else:
        due[deed[1]] = deed[2]
    return Table(rows, columns=columns), tuple(due)


def plain_text(deed):
    """The text of a deed."""
    words = []
    for entry in deed[1:]:
        words += [str(number) for number in entry] if isinstance(entry, tuple) else [str(entry)]
    if deed[0] in ("row", "column"):
        words.insert(len(deed[1]), "at")
    if deed[0] == "row":
        words.insert(len(words) - 1, "toll")
    return deed[0] + ": " + " ".join(words)


def next_deed(source, table, tolls, most=(5, 5)):
    """A deed that is not refused, for a table with at most so many rows and columns."""
    kinds = ["turn column", "number", "toll", "turn row", "drop row"] if table.height else ["turn column"]
    kinds += ["row"] * 3 if table.height < most[0] else []
    kinds += ["column"] * 2 if table.columns < most[1] else []
    kinds += ["drop column"] if table.columns > 1 else []
    kind = kinds[next(source) % len(kinds)]
    i = next(source) % max(1, table.height)
    j = next(source) % table.columns
    if kind == "row":
        row = tuple(some_numbers(table.columns, next(source), -2, 2))
        return (kind, row, next(source) % (table.height + 1), next(source) % 4)
    if kind == "column":
        return (kind, tuple(some_numbers(table.height, next(source), -1, 1)), next(source) % (table.columns + 1))
    if kind == "number":
        return (kind, i, j, next(source) % 5 - 2)
    if kind == "toll":
        return (kind, i, next(source) % 4)
    return (kind, i if kind.endswith("row") else j)


def some_deeds(many, seed, table, tolls, most=(5, 5)):
    """Deeds in a row, each with the table and the tolls after it."""
    source = stream(seed)
    for _ in range(many):
        deed = next_deed(source, table, tolls, most)
        table, tolls = plain_done(table, tolls, deed)
        yield deed, table, tolls
