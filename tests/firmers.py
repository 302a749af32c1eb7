"""Firm tables that the tests make, and plain answers on square parts and firm tables by trying everything."""

import itertools

from makers import plain_failing, plain_parts, plain_splits, some_tables, stream
from splitnumbers.tables import Table


def plain_determinant(rows):
    """The determinant as the document defines it, by the last row."""
    k = len(rows)
    if k == 1:
        return rows[0][0]
    total = 0
    for j in range(k):
        left = [row[:j] + row[j + 1:] for row in rows[:-1]]
        total += rows[-1][j] * plain_determinant(left) * (1 if (k - 1 + j) % 2 == 0 else -1)
    return total


def plain_squares(table):
    """All square parts in their order."""
    return [(rows, columns, plain_determinant([tuple(table.rows[i][j] for j in columns) for i in rows]))
            for size in range(1, min(table.height, table.columns) + 1)
            for rows in itertools.combinations(range(table.height), size)
            for columns in itertools.combinations(range(table.columns), size)]


def ones(table):
    return (1,) * table.height


def negative(x):
    return tuple(-a for a in x)


def plain_lones(table, tolls=None):
    """The leading lone splits, at tolls 1 if none are told."""
    due = ones(table) if tolls is None else tolls
    found = []
    for part in plain_parts(table.columns)[1:]:
        splits = plain_splits(table, due, part)
        if len(splits) == 2:
            found.append(splits[1])
    return sorted(found)


def plain_firm_table(table):
    return not plain_failing(table, ones(table))


def is_plain_lone(table, x):
    """Whether x or its contrary is lone at tolls 1."""
    part = tuple(j for j, a in enumerate(x) if a)
    splits = plain_splits(table, ones(table), part)
    return part != () and len(splits) == 2 and tuple(x) in splits


def firm_tables(many, seed, heights=(0, 4), widths=(1, 5)):
    """Many firm tables: stretches of 1 in the rows, rows with few numbers, and sums of these, signs changed."""
    source = stream(seed)

    def one_from(low, high):
        return low + next(source) % (high - low + 1)

    def stretch(width):
        ends = sorted((one_from(0, width), one_from(0, width)))
        return [int(ends[0] <= j < ends[1]) for j in range(width)]

    def few(width):
        row = [0] * width
        for _ in range(one_from(0, 3)):
            row[one_from(0, width - 1)] = one_from(-1, 1)
        return row

    made = 0
    while made < many:
        width = one_from(*widths)
        kind = (stretch, few, few)[one_from(0, 2)]
        rows = [kind(width) for _ in range(one_from(*heights))]
        turns = [one_from(0, 1) * 2 - 1 for _ in range(width)]
        table = Table([[a * b for a, b in zip(row, turns)] for row in rows], columns=width)
        if plain_firm_table(table):
            made += 1
            yield table


def beside_one_another(signs):
    """Whether no two of the signs have a column in common."""
    return all(sum(1 for x in signs if x[j]) <= 1 for j in range(len(signs[0]))) if signs else True


def added(rows, width):
    """The sum of rows of numbers."""
    return tuple(sum(row[j] for row in rows) for j in range(width))


def selections(things):
    """All selections of the things, as lists."""
    return [list(chosen) for size in range(len(things) + 1) for chosen in itertools.combinations(things, size)]


def even_rows_of(table, part):
    return [i for i, row in enumerate(table.rows) if sum(row[j] for j in part) % 2 == 0]


def square_tables(many, seed, sizes=(1, 4), greatest=3):
    """Many tables with as many rows as columns and a determinant other than 0."""
    made = 0
    for table in some_tables(50 * many, seed, sizes, sizes, greatest):
        places = list(range(min(table.height, table.columns)))
        square = table.lot(places, places)
        if plain_determinant(square.rows):
            made += 1
            yield square
        if made == many:
            return


def with_loose_rows(many, seed, loose, widths=(1, 4), greatest=4):
    """Square tables of a firm table and loose rows below it, with a determinant other than 0, and serving tolls."""
    source = stream(seed)
    made = 0
    for table in firm_tables(1000 * many, seed, (max(0, widths[0] - loose), widths[1]), widths):
        width = table.columns
        firm = width - loose
        if not 0 <= firm <= table.height:
            continue
        below = [[next(source) % (2 * greatest + 1) - greatest for _ in range(width)] for _ in range(loose)]
        square = Table(list(table.rows)[:firm] + below)
        if plain_determinant(square.rows):
            made += 1
            yield square, lowered(square, [1] * firm + [max(1, sum(map(abs, row))) for row in below])
        if made == many:
            return


def lowered(table, tolls):
    """Serving tolls, made less row by row, the last row first, as long as they serve and are above 1."""
    due = list(tolls)
    for i in range(len(due))[::-1]:
        while due[i] > 1 and not plain_failing(table, due[:i] + [due[i] - 1] + due[i + 1:]):
            due[i] -= 1
    return tuple(due)
