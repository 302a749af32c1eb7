"""Signs: tuples with 1 or -1 at the columns of a part and 0 elsewhere."""

from splitnumbers.errors import BadSigns, NotFitting
from splitnumbers.kinds import wrong_integer
from splitnumbers.numbers import of_length


def marks_of(count):
    """All tuples of count numbers 1 and -1, ascending."""
    marks = [()]
    for _ in range(count):
        marks = [row + (mark,) for row in marks for mark in (-1, 1)]
    return marks


def placed_marks(places, marks, count):
    """The row of count numbers with the marks at the places, 0 elsewhere."""
    numbers = [0] * count
    for place, mark in zip(places, marks):
        numbers[place] = mark
    return tuple(numbers)


def signs_of(part, count):
    """All signs of the part among count columns, ascending."""
    places = sorted(part)
    for marks in marks_of(len(places)):
        yield placed_marks(places, marks, count)


def leading_signs(part, count):
    """All leading signs of the part among count columns, ascending."""
    places = sorted(part)
    for marks in marks_of(len(places)):
        if marks[:1] == (1,):
            yield placed_marks(places, marks, count)


def signs_from(value, count):
    """Signs of count columns that are handed in, as a tuple."""
    wrong = wrong_integer(value, -1, 1)
    if wrong is not None:
        raise BadSigns(wrong)
    return of_length(tuple(value), count)


def part_of(signs):
    """The part of the signs."""
    return tuple([place for place, mark in enumerate(signs) if mark != 0])


def contrary(signs):
    """The signs with all signs changed."""
    return tuple([-mark for mark in signs])


def is_leading(signs):
    """Whether the first number other than 0 is 1."""
    for mark in signs:
        if mark != 0:
            return mark == 1
    return False


def made_leading(signs):
    """The signs or their contrary, whichever is leading; zeros as they are."""
    return tuple(signs) if is_leading(signs) else contrary(signs)


def beside(one, other):
    """Whether no column has a number other than 0 in both."""
    return all([mark == 0 or more == 0 for mark, more in zip(one, other)])


def joined_signs(one, other):
    """The sum of signs that are beside one another."""
    if not beside(one, other):
        raise NotFitting("columns")
    return tuple([mark + more for mark, more in zip(one, other)])
