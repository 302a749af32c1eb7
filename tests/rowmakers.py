"""Two rows below firm tables that the tests make, and what pairs of lone splits tell of them."""

import itertools

from makers import some_numbers


def dot(row, x):
    return sum(a * b for a, b in zip(row, x))


def worth(row, x):
    return abs(dot(row, x))


def ways_of(pair):
    u, v = pair
    return [tuple(a + b for a, b in zip(u, v)), tuple(a - b for a, b in zip(u, v))]


def two_rows_each(tables, seed, greatest=3):
    """Each table with two rows of numbers."""
    for k, table in enumerate(tables):
        n = table.columns
        # Seeds that are near one another give like numbers, so both rows are drawn together.
        numbers = tuple(some_numbers(2 * n, seed + 7919 * k * k, -greatest, greatest))
        yield table, numbers[:n], numbers[n:]


def all_of(count, numbers):
    """All tuples of count of the numbers."""
    return list(itertools.product(numbers, repeat=count))
