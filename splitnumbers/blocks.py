"""The blocks of a table: its numbers other than 0, as far as circuits hold them together."""

from splitnumbers.kinds import refuse_many
from splitnumbers.searching import MOST_GONE_THROUGH
from splitnumbers.tolls import serves, tolls_of


def lines_of(table):
    """The lines as couples of points: a row has its number, a column its number behind those of all rows."""
    return [(i, table.height + j) for i, row in enumerate(table.rows) for j, number in enumerate(row) if number != 0]


def merged(labels, one, other):
    """The labels, those of one and of other made the same."""
    kept = labels[one]
    gone = labels[other]
    return {thing: kept if label == gone else label for thing, label in labels.items()}


def labels_without(lines, barred):
    """Labels of the points, the same for points that lines join without passing the barred point."""
    labels = {point: point for line in lines for point in line}
    for one, other in lines:
        if barred not in (one, other) and labels[one] != labels[other]:
            labels = merged(labels, one, other)
    return labels


def line_labels(lines):
    """Labels of the lines, the same for lines of one block.

    Two lines at a point are on one circuit exactly if their other ends are joined without that point. And a circuit
    holds any two of its lines together by steps from a line to the next one.
    """
    labels = {line: line for line in lines}
    for point in sorted(set([end for line in lines for end in line])):
        around = labels_without(lines, point)
        firsts = {}
        for line in lines:
            if point in line:
                # The sum of both ends less the point is the other end.
                first = firsts.setdefault(around[sum(line) - point], line)
                labels = merged(labels, first, line)
    return labels


def blocks_of(table):
    """The blocks as (rows, columns), ascending."""
    lines = lines_of(table)
    labels = line_labels(lines)
    blocks = []
    for label in sorted(set(list(labels.values()))):
        block = [line for line in lines if labels[line] == label]
        rows = sorted(set([row for row, _ in block]))
        columns = sorted(set([point - table.height for _, point in block]))
        blocks.append((tuple(rows), tuple(columns)))
    return sorted(blocks)


def failing_block(table, tolls):
    """The first block that the tolls of its rows do not serve, None if there is none."""
    due = tolls_of(tolls, table.height)
    blocks = blocks_of(table)
    for _, columns in blocks:
        refuse_many(len(columns), MOST_GONE_THROUGH)
    for rows, columns in blocks:
        if not serves(table.lot(rows, columns), [due[i] for i in rows]):
            return (rows, columns)
    return None


def block_loose(table, tolls):
    """For each block the number of its loose rows."""
    due = tolls_of(tolls, table.height)
    return tuple([len([i for i in rows if due[i] > 1]) for rows, _ in blocks_of(table)])


def is_one_block(table):
    """Whether one block holds all rows and all columns."""
    return blocks_of(table) == [(tuple(range(table.height)), tuple(range(table.columns)))]
