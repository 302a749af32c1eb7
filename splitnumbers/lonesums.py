"""Lone splits of firm tables, and the pieces that all splits are made of."""

from splitnumbers.errors import NotFitting
from splitnumbers.firmness import firm_halves, ones_of
from splitnumbers.ranks import rank_of
from splitnumbers.searching import is_within, lone_of_part
from splitnumbers.sets import parts_of, set_of
from splitnumbers.signs import contrary, part_of, put_at, signs_from
from splitnumbers.splitting import even_rows


def ways_free(table, part):
    """The number of columns of the part less the rank of its even rows."""
    places = set_of(part, table.columns)
    rows = even_rows(table, places)
    return len(places) - rank_of(tuple([tuple([table.rows[i][j] for j in places]) for i in rows]))


def lones_among(halves):
    """The leading lone splits, ascending, from what firm_halves tells."""
    return sorted([contrary(half[0]) for half in halves if len(half) == 1])


def lone_way(table, part):
    """The leading lone split of the part, None if it has another number of ways free than 1."""
    places = set_of(part, table.columns)
    firm_halves(table)
    return lone_of_part(table, ones_of(table), places) if places else None


def firm_lones(table):
    """The leading lone splits, ascending."""
    return lones_among(firm_halves(table))


def is_part_of_sums(sums, whole):
    """Whether each sum is 0 or the one of the whole."""
    return all([number in (0, total) for number, total in zip(sums, whole)])


def first_piece(table, signs):
    """The first part of the signs, fewer columns first, whose sums are 0 or those of the signs.

    It is lone: any split is made of lone ones with such sums, and here none of them has fewer columns.
    """
    columns = part_of(signs)
    whole = table(signs)
    zeros = (0,) * len(signs)
    for chosen in parts_of(len(columns)):
        places = [columns[k] for k in chosen]
        piece = put_at(places, [signs[j] for j in places], zeros)
        if is_part_of_sums(table(piece), whole):
            return piece
    return signs


def pieces_of(table, signs):
    """The pieces of a split of a firm table, ascending."""
    pieces = []
    left = signs
    while part_of(left):
        piece = first_piece(table, left)
        pieces.append(piece)
        left = tuple([mark - less for mark, less in zip(left, piece)])
    return tuple(sorted(pieces))


def lone_pieces(table, signs):
    """Lone splits without common columns that add up to the split, each odd row in one of them, ascending."""
    marks = signs_from(signs, table.columns)
    firm_halves(table)
    if not is_within(table(marks), ones_of(table)):
        raise NotFitting("split")
    return pieces_of(table, marks)
