"""Plain answers on roundings, by fractions and by trying all of them."""

import itertools
from fractions import Fraction

from makers import some_numbers


def told(fraction):
    return (fraction.numerator, fraction.denominator)


def fractions_of(shares):
    return [Fraction(*share) if isinstance(share, tuple) else Fraction(share) for share in shares]


def plain_roundings(shares):
    choices = [(0, 1) if 0 < w < 1 else (w.numerator,) for w in fractions_of(shares)]
    return list(itertools.product(*choices))


def plain_miss(table, shares, z):
    steps = [a - w for a, w in zip(z, fractions_of(shares))]
    return [sum((a * b for a, b in zip(row, steps)), Fraction(0)) for row in table.rows]


def plain_firm(table, tolls, shares):
    return [z for z in plain_roundings(shares)
            if all(q > 1 or -1 < a < 1 for q, a in zip(tolls, plain_miss(table, shares, z)))]


def plain_within(table, tolls, shares):
    return [z for z in plain_roundings(shares)
            if all(abs(a) < q for q, a in zip(tolls, plain_miss(table, shares, z)))]


def plain_quotient(table, tolls, shares, z, rows):
    misses = plain_miss(table, shares, z)
    return max([Fraction(0)] + [abs(misses[i]) / tolls[i] for i in rows])


def some_shares(columns, seed, bottom):
    """Shares over a bottom, whole ones among them."""
    return [(top, bottom) for top in some_numbers(columns, seed, 0, bottom)]
