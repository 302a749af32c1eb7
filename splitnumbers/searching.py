"""The search for splits. Tolls and parts are taken as they are, without a check."""

from splitnumbers.signs import contrary, put_at

# Parts are gone through for tables of at most this many columns.
MOST_GONE_THROUGH = 7


def is_within(sums, tolls):
    """Whether each sum has a size of at most its toll."""
    for number, toll in zip(sums, tolls):
        if number > toll or -number > toll:
            return False
    return True


def rooms_along(columns, tolls):
    """For each column what the sums may be behind it, if the later columns are to bring them within the tolls."""
    rooms = [tolls]
    for column in columns[:0:-1]:
        rooms.append(tuple([room + abs(number) for room, number in zip(rooms[-1], column)]))
    return rooms[::-1]


def grown_states(states, column, room):
    """The states (marks, sums) with a mark for one column more, as far as the sums fit the room."""
    grown = []
    for marks, sums in states:
        less = [number - step for number, step in zip(sums, column)]
        if is_within(less, room):
            grown.append((marks + (-1,), less))
        more = [number + step for number, step in zip(sums, column)]
        if is_within(more, room):
            grown.append((marks + (1,), more))
    return grown


def half_splits(table, tolls, part):
    """The splits of a part that is not empty with -1 at its first column, ascending.

    The others are their contraries, so nothing is lost and half of the work is saved.
    """
    columns = [table.column(j) for j in part]
    rooms = rooms_along(columns, tolls)
    states = []
    if is_within(columns[0], rooms[0]):
        states.append(((-1,), contrary(columns[0])))
    for column, room in zip(columns[1:], rooms[1:]):
        states = grown_states(states, column, room)
    return [put_at(part, state[0], (0,) * table.columns) for state in states]


def all_splits(table, tolls, part):
    """The splits of any part, ascending."""
    if len(part) == 0:
        return [(0,) * table.columns]
    half = half_splits(table, tolls, part)
    return half + [contrary(signs) for signs in half[::-1]]


def first_of_part(table, tolls, part):
    """The first split of any part, None if it has none."""
    if len(part) == 0:
        return (0,) * table.columns
    half = half_splits(table, tolls, part)
    return half[0] if half else None


def lone_of_part(table, tolls, part):
    """The leading lone split of a part that is not empty, None if it has none."""
    half = half_splits(table, tolls, part)
    return contrary(half[0]) if len(half) == 1 else None
