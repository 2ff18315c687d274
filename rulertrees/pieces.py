"""The pieces of which a relation is the product."""

from itertools import combinations
from rulertrees.errors import BadRelation, BadSplit
from rulertrees.integers import shortened
from rulertrees.items import count_dials, other_dials, table_rows
from rulertrees.kinds import is_integers
from rulertrees.relations import check_relation, check_three_dials, root_place


def is_split(thing, many):
    """Whether any value is an ascending tuple of some of so many dials, at least one and not all."""
    if not isinstance(thing, tuple) or not 0 < len(thing) < many or not is_integers(thing, len(thing)):
        return False
    return all(0 <= dial < many for dial in thing) and all(low < high for low, high in zip(thing, thing[1:]))


def check_split(dials, many):
    """Raises BadSplit with any value that is no split of so many dials."""
    if not is_split(dials, many):
        raise BadSplit(dials)


def is_product_table(rows):
    """Whether a table, not all of it 0, is a column times a row."""
    lead = [row for row in rows if any(row)][0]
    at = [column for column, entry in enumerate(lead) if entry != 0][0]
    return all(row[column] * lead[at] == row[at] * lead[column] for row in rows for column in range(len(lead)))


def falls_apart(relation, dials):
    """Whether a relation is a product of a relation of these dials and one of the others."""
    check_relation(relation)
    check_split(dials, count_dials(relation))
    return is_product_table(table_rows(relation, dials))


def factor(relation, dials):
    """The relation of these dials in a relation that falls apart at them."""
    rows = table_rows(relation, dials)
    column = [at for at in range(len(rows[0])) if any(row[at] for row in rows)][0]
    return shortened(tuple(row[column] for row in rows))


def first_piece(relation):
    """The dials of the piece that has the dial 0."""
    many = count_dials(relation)
    for more in range(many - 1):
        for rest in combinations(range(1, many), more):
            dials = (0,) + rest
            if is_product_table(table_rows(relation, dials)):
                return dials
    return tuple(range(many))


def pieces(relation):
    """The tuple of pairs (dials, relation of these dials)."""
    check_relation(relation)
    left = tuple(range(count_dials(relation)))
    rest = relation
    found = []
    while left:
        dials = first_piece(rest)
        others = other_dials(len(left), dials)
        found.append((tuple(left[dial] for dial in dials), factor(rest, dials)))
        rest = factor(rest, others)
        left = tuple(left[dial] for dial in others)
    return tuple(found)


def parts(relation):
    """The ascending tuple of pairs (dial, place), one for each piece of one dial."""
    return tuple((dials[0], root_place(piece)) for dials, piece in pieces(relation) if len(dials) == 1)


def is_whole(relation):
    """Whether a relation has two dials or more and one piece alone."""
    return len(pieces(relation)) == 1 and count_dials(relation) > 1


def check_whole(thing):
    """Raises BadRelation with any value that is no whole relation of three dials or more."""
    check_three_dials(thing)
    if not is_whole(thing):
        raise BadRelation(thing)
