"""Sets of places: tuples of different integers, ascending."""

from splitnumbers.errors import BadSet
from splitnumbers.kinds import is_from, is_listing


def wrong_place(places, count):
    """The first entry that is no place of count ones or stands there again, -1 for no list or tuple, else None."""
    if not is_listing(places):
        return -1
    for at, place in enumerate(places):
        if not is_from(place, 0, count - 1) or place in places[:at]:
            return at
    return None


def set_of(places, count):
    """The set of the places, each from 0 to count - 1."""
    wrong = wrong_place(places, count)
    if wrong is not None:
        raise BadSet(wrong)
    return tuple(sorted(places))


def grown_sets(sets, count):
    """The sets, each with one greater place more, in all ways: ascending if the sets are."""
    grown = []
    for places in sets:
        start = places[-1] + 1 if places else 0
        grown.extend([places + (place,) for place in range(start, count)])
    return grown


def sets_of_size(size, count):
    """All sets with size of the places 0 .. count-1, ascending."""
    sets = [()]
    for _ in range(size):
        sets = grown_sets(sets, count)
    return sets


def parts_of(count):
    """All sets with at least one place, by their size, ascending among equally great ones."""
    sets = [()]
    for _ in range(count):
        sets = grown_sets(sets, count)
        yield from sets


def holds(places, others):
    """Whether all of the others are among the places."""
    return all([other in places for other in others])


def least_sets(sets):
    """Those of the sets that hold no other one, each once, ascending."""
    different = sorted(set([tuple(sorted(places)) for places in sets]))
    least = []
    for places in different:
        if not any([other != places and holds(places, other) for other in different]):
            least.append(places)
    return tuple(least)
