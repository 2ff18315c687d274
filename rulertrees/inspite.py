"""Relations told back from readings of which some may be wrong."""

from itertools import combinations
from rulertrees.kinds import is_integers, is_tuple_of, is_word
from rulertrees.relations import check_places
from rulertrees.tables import dot
from rulertrees.toldback import against, agreeing, check_sheet, is_agreeing, products_of


def without(sheet, positions):
    """The readings of a sheet at other positions."""
    return tuple(reading for at, reading in enumerate(sheet) if at not in positions)


def taken_out(sheet, w):
    """All tuples of positions of a sheet that can be taken out: just so many, or all if there are fewer."""
    many = min(w, len(sheet))
    return list(combinations(range(len(sheet)), int(many)))


def relations_in_spite(n, sheet, w):
    """The ascending tuple of the relations that hold at all readings but so many; None if there are infinitely many."""
    check_sheet(n, sheet)
    found = set()
    for positions in taken_out(sheet, w):
        relations = agreeing(n, without(sheet, positions))
        if len(relations) > 1:
            return None
        for relation in relations:
            found.add(relation)
    return tuple(sorted(found))


def judge_spite(n, sheet, w, reading):
    """A certificate that a reading does not follow in spite of so many wrong readings, None if it does."""
    check_sheet(n, sheet)
    check_places(reading, n)
    for positions in taken_out(sheet, w):
        relation = against(agreeing(n, without(sheet, positions)), reading)
        if relation is not None:
            return ("out", positions, relation)
    return None


def are_positions(thing, many, most):
    """Whether any value is an ascending tuple of at most some unlike positions among so many."""
    if not isinstance(thing, tuple) or len(thing) > most or not is_integers(thing, len(thing)):
        return False
    return all(0 <= at < many for at in thing) and all(low < high for low, high in zip(thing, thing[1:]))


def spite_holds(n, sheet, w, reading, thing):
    """Whether any value is a certificate that a reading does not follow in spite of so many wrong readings."""
    check_sheet(n, sheet)
    check_places(reading, n)
    if not is_tuple_of(thing, 3) or not is_word(thing[0], "out") or not are_positions(thing[1], len(sheet), w):
        return False
    return is_agreeing(n, without(sheet, thing[1]), thing[2]) and dot(thing[2], products_of(reading)) != 0
