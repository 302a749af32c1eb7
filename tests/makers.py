"""What the tests share: tables that are made here, plain answers by trying all signs, and errors as tuples."""

import itertools

from splitnumbers.errors import Trouble
from splitnumbers.tables import Table


def error_of(call, *values, **named):
    """The error of a call as (name, argument, ..), None if it raises none."""
    try:
        call(*values, **named)
    except Trouble as trouble:
        return (type(trouble).__name__,) + tuple(vars(trouble).values())
    return None


def first_of(generator):
    """The first value of a generator; a call of its own, so that its errors come up here."""
    return next(generator, None)


def all_tables(height, columns, numbers):
    """All tables of this size with entries among the numbers."""
    for entries in itertools.product(numbers, repeat=height * columns):
        rows = [entries[i * columns:(i + 1) * columns] for i in range(height)]
        yield Table(rows, columns=columns)


def stream(seed):
    """Integers that look unordered and are the same at each run."""
    state = seed
    while True:
        state = (state * 1103515245 + 12345) % (1 << 31)
        yield state >> 12


def some_tables(many, seed=1, heights=(0, 3), widths=(1, 4), greatest=2):
    """Many tables with heights and widths and numbers from the given ranges."""
    source = stream(seed)

    def one_from(low, high):
        return low + next(source) % (high - low + 1)

    for _ in range(many):
        height = one_from(*heights)
        width = one_from(*widths)
        rows = [[one_from(-greatest, greatest) for _ in range(width)] for _ in range(height)]
        yield Table(rows, columns=width)


def some_numbers(many, seed, low, high):
    """A list of many integers from low to high."""
    source = stream(seed)
    return [low + next(source) % (high - low + 1) for _ in range(many)]


def long_numbers(many, seed, greatest=10 ** 30):
    """A list of many integers of either sign and a size of at most the greatest, most of them with as many digits."""
    source = stream(seed)
    return [sum(next(source) << 19 * k for k in range(8)) % (2 * greatest + 1) - greatest for _ in range(many)]


def plain_parts(count):
    """All parts, the empty one first, smaller ones before greater ones."""
    return [part for size in range(count + 1) for part in itertools.combinations(range(count), size)]


def plain_sums(table, numbers):
    """The sums of a row of integers."""
    return tuple(sum(a * b for a, b in zip(row, numbers)) for row in table.rows)


def plain_signs(part, count):
    """All signs of a part, ascending."""
    choices = [(-1, 1) if j in part else (0,) for j in range(count)]
    return list(itertools.product(*choices))


def plain_splits(table, tolls, part):
    """The splits of a part, by trying all signs."""
    return [x for x in plain_signs(part, table.columns)
            if all(abs(s) <= q for s, q in zip(plain_sums(table, x), tolls))]


def plain_failing(table, tolls):
    """The failing parts, by trying all signs."""
    return [part for part in plain_parts(table.columns) if not plain_splits(table, tolls, part)]


def all_tolls(height, greatest):
    """All tolls from 0 to greatest."""
    return itertools.product(range(greatest + 1), repeat=height)


def serving_tolls(table, least=0):
    """Some tolls that serve, none below least: the sums of the sizes of each row's numbers, then lowered row by row."""
    tolls = [max(least, sum(abs(number) for number in row)) for row in table.rows]
    for i in range(len(tolls)):
        while tolls[i] > least and not plain_failing(table, tolls[:i] + [tolls[i] - 1] + tolls[i + 1:]):
            tolls[i] -= 1
    return tuple(tolls)


WRONG_KINDS = (None, 5, "12", {0: 1}, b"ab", {1, 2}, True)
WRONG_INTEGERS = (None, True, False, "1", 1.0, (1, 2), [1])
