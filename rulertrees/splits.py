"""Splits of a relation: their tables, ranks and certificates."""

from itertools import combinations
from rulertrees.items import count_dials, table_rows
from rulertrees.kinds import is_integer, is_integers, is_tuple_of, is_word
from rulertrees.matrices import three_determinant
from rulertrees.pieces import check_split
from rulertrees.relations import check_relation
from rulertrees.tables import pivots, rank


def table_of(relation, dials):
    """The table of a split."""
    check_relation(relation)
    check_split(dials, count_dials(relation))
    return table_rows(relation, dials)


def rank_of(relation, dials):
    """The rank of a split."""
    return rank(table_of(relation, dials))


def splits_of(many, least):
    """The ascending list of the splits of so many dials that have the dial 0, at least so many on either side."""
    found = []
    for more in range(least - 1, many - least):
        for rest in combinations(range(1, many), more):
            found.append((0,) + rest)
    return sorted(found)


def ranks(relation):
    """The ascending tuple of pairs of a split that has the dial 0 and its rank."""
    check_relation(relation)
    return tuple((dials, rank_of(relation, dials)) for dials in splits_of(count_dials(relation), 1))


def judge_split(relation, dials):
    """A certificate that the rank of a split is at most two, or that it is more."""
    rows = table_of(relation, dials)
    found = pivots(rows)
    if len(found) < 3:
        return ("two",) + two_products(rows, found)
    at_rows = tuple(row for row, _ in found[:3])
    at_columns = tuple(sorted([column for _, column in found[:3]]))
    return ("more", at_rows, at_columns)


def two_products(rows, found):
    """An integer, and two pairs of tuples whose products make the table times the integer; found are its pivots."""
    first, one = found[0]
    if len(found) == 1:
        nothing = ((0,) * len(rows), (0,) * len(rows[0]))
        return (rows[first][one], (tuple(row[one] for row in rows), nothing[0]), (rows[first], nothing[1]))
    second, other = found[1]
    a, b = rows[first][one], rows[first][other]
    c, d = rows[second][one], rows[second][other]
    # By Cramer's rule each row of the table is a sum of multiples of the two rows with pivots.
    plus = tuple(d * row[one] - c * row[other] for row in rows)
    minus = tuple(b * row[one] - a * row[other] for row in rows)
    return (a * d - b * c, (plus, minus), (rows[first], rows[second]))


def split_holds(relation, dials, thing):
    """Whether any value is a certificate for a split."""
    rows = table_of(relation, dials)
    if is_tuple_of(thing, 4) and is_word(thing[0], "two"):
        return is_integer(thing[1]) and thing[1] != 0 and are_two_products(rows, thing[1], thing[2], thing[3])
    if is_tuple_of(thing, 3) and is_word(thing[0], "more"):
        return is_minor(rows, thing[1], thing[2])
    return False


def is_pair_of_integers(thing, many):
    """Whether any value is a pair of tuples of just so many integers."""
    return is_tuple_of(thing, 2) and all(is_integers(numbers, many) for numbers in thing)


def are_two_products(rows, times, ones, others):
    """Whether any two values are pairs of tuples whose products make the table times an integer."""
    if not is_pair_of_integers(ones, len(rows)) or not is_pair_of_integers(others, len(rows[0])):
        return False
    return all(
        times * entry == plus * first - minus * second
        for row, plus, minus in zip(rows, ones[0], ones[1]) for entry, first, second in zip(row, others[0], others[1])
    )


def is_three_numbers(thing, many):
    """Whether any value is an ascending tuple of three unlike integers from 0 up and below so many."""
    return is_integers(thing, 3) and 0 <= thing[0] < thing[1] < thing[2] < many


def is_minor(rows, at_rows, at_columns):
    """Whether any two values are three rows and columns at which a table has a determinant that is not 0."""
    if not is_three_numbers(at_rows, len(rows)) or not is_three_numbers(at_columns, len(rows[0])):
        return False
    one, other, third = [tuple(rows[row][column] for column in at_columns) for row in at_rows]
    return three_determinant(one, other, third) != 0
