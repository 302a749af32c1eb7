"""Desks and their deeds as texts to be printed."""

from splitnumbers.deeds import deed_text


def row_line(row, width, toll):
    """The line of a row and its toll."""
    numbers = " ".join([str(number).rjust(width) for number in row])
    return f"{numbers} | {toll}"


def serving_lines(desk):
    """The lines on what the tolls do."""
    part = desk.failing()
    if part is not None:
        columns = " ".join([str(j) for j in part])
        return [f"fails at {columns}"]
    return ["serves", f"lone {len(desk.lones())}"]


def ended(lines):
    """The lines as one string, each ended by a line feed."""
    return "".join([line + "\n" for line in lines])


def listing(desk):
    """The printed desk."""
    rows = desk.table_now.rows
    width = max([0] + [len(str(number)) for row in rows for number in row])
    head = f"desk {desk.name}" if desk.name else "desk"
    lines = [row_line(row, width, toll) for row, toll in zip(rows, desk.tolls)]
    return ended([head] + lines + serving_lines(desk))


def deeds_listing(desk):
    """The printed deeds, oldest first."""
    return ended([f"{number}. {deed_text(deed)}" for number, deed in enumerate(desk.deeds, start=1)])
