"""Tables as texts, and texts read back."""

from splitnumbers.errors import BadNumber, BadText
from splitnumbers.kinds import is_from
from splitnumbers.tables import MOST, Table

DIGITS = "0123456789"
MOST_DIGITS = 600


def table_text(table):
    """The text of a table: a head with its size, then a line for each row."""
    lines = [f"table {table.height} {table.columns}\n"]
    for row in table.rows:
        lines.append(" ".join([str(number) for number in row]) + "\n")
    return "".join(lines)


def is_numeral(word):
    """Whether the word is a numeral, 0 or without leading zeros."""
    if word == "0":
        return True
    digits = word[1:] if word.startswith("-") else word
    if not 1 <= len(digits) <= MOST_DIGITS or digits[0] == "0":
        return False
    return all([digit in DIGITS for digit in digits])


def size_in(line):
    """The height and the number of columns that the head tells."""
    words = line.split(" ")
    if len(words) != 3 or words[0] != "table" or not is_numeral(words[1]) or not is_numeral(words[2]):
        raise BadText(1, "head")
    height = int(words[1])
    columns = int(words[2])
    if not is_from(height, 0, MOST):
        raise BadText(1, "head") from BadNumber("height")
    if not is_from(columns, 1, MOST):
        raise BadText(1, "head") from BadNumber("columns")
    return (height, columns)


def row_in(line, number, columns):
    """The row that a line tells; number is the line's."""
    words = line.split(" ")
    if len(words) != columns:
        raise BadText(number, "row")
    if not all([is_numeral(word) for word in words]):
        raise BadText(number, "number")
    return [int(word) for word in words]


def table_from(text):
    """The table of a text."""
    if not isinstance(text, str):
        raise BadText(1, "head")
    # What stands behind the last line feed is no ended line.
    pieces = text.split("\n")
    lines = pieces[:-1]
    if len(lines) == 0:
        raise BadText(1, "head")
    height, columns = size_in(lines[0])
    rows = []
    for number in range(2, height + 2):
        if number > len(lines):
            raise BadText(number, "rows")
        rows.append(row_in(lines[number - 1], number, columns))
    if len(lines) > height + 1 or pieces[-1] != "":
        raise BadText(height + 2, "rows")
    return Table(rows, columns=columns)
