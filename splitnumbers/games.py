"""Mixes of signs with small mean squares, and the weights of rows that show when there are none."""

from splitnumbers.errors import NotFitting
from splitnumbers.kinds import refuse_many
from splitnumbers.mixes import SignMix
from splitnumbers.ratios import greatest_ratio, ratio_less, ratio_sum
from splitnumbers.sets import parts_of, set_of
from splitnumbers.signs import leading_signs
from splitnumbers.solving import solve_within
from splitnumbers.squaring import squares_at, squares_of
from splitnumbers.weighing import weighed

MOST_COLUMNS = 5


def choices_in(table, part):
    """The signs of the part that are mixed, zeros for the empty part: their contraries have the same sum squares."""
    return list(leading_signs(part, table.columns)) or [(0,) * table.columns]


def refuse_no_rows(table):
    """Nothing, or TooMany(5) for more than 5 columns, then NotFitting for a table without rows."""
    refuse_many(table.columns, MOST_COLUMNS)
    if table.height == 0:
        raise NotFitting("rows")


def with_sum_one(prices):
    """The prices, the first one raised until their sum is 1: some of it is lacking only where EVEN is 0."""
    lacking = (1, 1)
    for price in prices:
        lacking = ratio_less(lacking, price)
    return (ratio_sum(prices[0], lacking),) + prices[1:]


def game_of(table, part):
    """EVEN of the part, the signs that are mixed, their weights, and the weights of the rows.

    The last column of the equations stands for what the mean squares are held down to. Its gain is -1, so the least
    one is found.
    """
    signs = choices_in(table, part)
    columns = [(1,) + squares_at(table, marks) for marks in signs] + [(0,) + (-1,) * table.height]
    room = [1] + [0] * table.height
    total, weights, prices = solve_within(columns, table.height, room, [0] * len(signs) + [-1])[1:]
    return (ratio_less(0, total), signs, weights[:len(signs)], with_sum_one(prices[1:]))


def part_game(table, part):
    """EVEN of the part, a mix of its signs that reaches it, and weights of the rows that show that none is less."""
    places = set_of(part, table.columns)
    refuse_no_rows(table)
    value, signs, weights, prices = game_of(table, places)
    return (value, SignMix(weighed(signs, weights)), prices)


def parts_and_values(table):
    """Couples of each part that is not empty and its EVEN, in the order of parts."""
    refuse_no_rows(table)
    return [(part, game_of(table, part)[0]) for part in parts_of(table.columns)]


def even_of(table):
    """EVEN of the table."""
    return greatest_ratio([value for _, value in parts_and_values(table)])


def even_part(table):
    """The first part whose EVEN is that of the table."""
    values = parts_and_values(table)
    greatest = greatest_ratio([value for _, value in values])
    return [part for part, value in values if value == greatest][0]


def within_squares(table, part, squares):
    """The signs that are mixed, their weights with mean squares of at most the squares or None, and room prices."""
    signs = choices_in(table, part)
    columns = [(1,) + squares_at(table, marks) for marks in signs]
    weights, prices = solve_within(columns, table.height, [1] + squares, [0] * len(signs))[2:]
    return (signs, weights, prices)


def square_mix(table, part, squares):
    """A mix of signs of the part with mean squares of at most the squares, None if there is none."""
    places = set_of(part, table.columns)
    rooms = squares_of(squares, table.height)
    refuse_many(table.columns, MOST_COLUMNS)
    signs, weights, _ = within_squares(table, places, rooms)
    return None if weights is None else SignMix(weighed(signs, weights))


def square_weights(table, part, squares):
    """Weights of the rows that show that the part has no such mix, None if it has one."""
    places = set_of(part, table.columns)
    rooms = squares_of(squares, table.height)
    refuse_many(table.columns, MOST_COLUMNS)
    _, weights, prices = within_squares(table, places, rooms)
    return prices[1:] if weights is None else None


def even_failing(table, squares):
    """The first part without a mix of signs with mean squares of at most the squares, None if there is none."""
    rooms = squares_of(squares, table.height)
    refuse_many(table.columns, MOST_COLUMNS)
    for part in parts_of(table.columns):
        if within_squares(table, part, rooms)[1] is None:
            return part
    return None


def even_serves(table, squares):
    """Whether each part has a mix of signs with mean squares of at most the squares."""
    return even_failing(table, squares) is None
