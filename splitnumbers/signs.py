"""Signs: tuples with 1 or -1 at the columns of a part and 0 elsewhere."""

from splitnumbers.errors import BadSigns, NotFitting
from splitnumbers.kinds import wrong_integer
from splitnumbers.numbers import of_length


MARKS = (-1, 1)


def choices_of(numbers, count):
    """All tuples of count numbers, each one of the given ascending ones; ascending."""
    choices = [()]
    for _ in range(count):
        choices = [choice + (number,) for choice in choices for number in numbers]
    return choices


def put_at(places, numbers, row):
    """The row with the numbers at the places."""
    changed = list(row)
    for place, number in zip(places, numbers):
        changed[place] = number
    return tuple(changed)


def signs_of(part, count):
    """All signs of the part among count columns, ascending."""
    places = sorted(part)
    for marks in choices_of(MARKS, len(places)):
        yield put_at(places, marks, (0,) * count)


def leading_signs(part, count):
    """All leading signs of the part among count columns, ascending."""
    places = sorted(part)
    for marks in choices_of(MARKS, len(places)):
        if marks[:1] == (1,):
            yield put_at(places, marks, (0,) * count)


def signs_from(value, count):
    """Signs of count columns that are handed in, as a tuple."""
    wrong = wrong_integer(value, -1, 1)
    if wrong is not None:
        raise BadSigns(wrong)
    return of_length(tuple(value), count)


def part_of(signs):
    """The part of the signs."""
    return tuple([place for place, mark in enumerate(signs) if mark != 0])


def contrary(signs):
    """The signs with all signs changed."""
    return tuple([-mark for mark in signs])


def is_leading(signs):
    """Whether the first number other than 0 is 1."""
    for mark in signs:
        if mark != 0:
            return mark == 1
    return False


def made_leading(signs):
    """The signs or their contrary, whichever is leading; zeros as they are."""
    return tuple(signs) if is_leading(signs) else contrary(signs)


def beside(one, other):
    """Whether no column has a number other than 0 in both."""
    return all([mark == 0 or more == 0 for mark, more in zip(one, other)])


def joined_signs(one, other):
    """The sum of signs that are beside one another."""
    if not beside(one, other):
        raise NotFitting("columns")
    return tuple([mark + more for mark, more in zip(one, other)])
