"""Slow and plain answers about sheets of readings, straight from the definitions of DOC.md."""

import itertools
import math
from fractions import Fraction
from tests import naive
from tests.naive_rings import is_place, place_of

ENDS = ((0, 1), (1, 0))


def is_reading(thing, n):
    return type(thing) is tuple and len(thing) == n and all(is_place(place) for place in thing)


def wrong_at(n, sheet):
    """The position with which BadSheet is raised, None for a sheet."""
    if type(sheet) is not tuple:
        return 0
    return next((at for at, reading in enumerate(sheet) if not is_reading(reading, n)), None)


def products(reading):
    return tuple(math.prod(place[bit] for place, bit in zip(reading, bits)) for bits in naive.bits_of(len(reading)))


def table(sheet):
    return [products(reading) for reading in sheet]


def rank(rows):
    return naive.rank(rows) if rows else 0


def freedom(n, sheet):
    return 2 ** n - rank(table(sheet))


def follows(sheet, reading):
    """Whether the products of a reading add nothing to the rank of those of a sheet."""
    rows = table(sheet)
    return rank(rows + [products(reading)]) == rank(rows)


def agrees(relation, sheet):
    return all(naive.value(relation, reading) == 0 for reading in sheet)


def is_agreeing(n, sheet, thing):
    if type(thing) is not tuple or len(thing) != 2 ** n or not naive.is_ints(thing, 2 ** n):
        return False
    return bool(naive.is_short(thing)) and agrees(thing, sheet)


def basis(n, sheet):
    """Fractions that span all relations that agree with a sheet."""
    rows = table(sheet) or [(0,) * 2 ** n]
    return naive.null_space(rows)


def mixed(chance, vectors):
    """A relation that is a sum of multiples of some, chosen at random."""
    while True:
        many = [chance.randrange(-3, 4) for _ in vectors]
        items = [sum(m * vector[k] for m, vector in zip(many, vectors)) for k in range(len(vectors[0]))]
        if any(items):
            common = math.lcm(*(Fraction(item).denominator for item in items))
            return naive.short([int(item * common) for item in items])


def follows_holds(n, sheet, reading, thing):
    if type(thing) is not tuple or len(thing) < 2 or type(thing[0]) is not str:
        return False
    if thing[0] == "free" and len(thing) == 2:
        return is_agreeing(n, sheet, thing[1]) and naive.value(thing[1], reading) != 0
    if thing[0] != "follows" or len(thing) != 3 or not naive.is_int(thing[1]) or thing[1] == 0:
        return False
    if type(thing[2]) is not tuple or not naive.is_ints(thing[2], len(sheet)):
        return False
    total = [0] * 2 ** n
    for times, row in zip(thing[2], table(sheet)):
        total = [item + times * number for item, number in zip(total, row)]
    return total == [thing[1] * number for number in products(reading)]


def all_readings(n, places=ENDS):
    return list(itertools.product(places, repeat=n))


def is_question(n, thing):
    if type(thing) is not tuple or len(thing) != 2 or not naive.is_int(thing[0]):
        return False
    return 0 <= thing[0] < n and is_reading(thing[1], n - 1)


def answer(relation, question):
    """The answer of a relation to a question."""
    dial, places = question
    a, b = [naive.value(relation, places[:dial] + (unit,) + places[dial:]) for unit in ((1, 0), (0, 1))]
    return None if a == b == 0 else place_of(b, -a)


def told(sheet, question, place):
    dial, places = question
    added = [(0, 1), (1, 0)] if place is None else [place]
    return sheet + tuple(places[:dial] + (one,) + places[dial:] for one in added)


def is_keen(n, sheet, question, chance):
    """Whether each of many relations that agree with a sheet, the plainest ones too, leaves less freedom by its answer."""
    vectors = basis(n, sheet)
    if not vectors:
        return False
    asked = {mixed(chance, [vector]) for vector in vectors} | {mixed(chance, vectors) for _ in range(12)}
    free = freedom(n, sheet)
    return all(freedom(n, told(sheet, question, answer(relation, question))) < free for relation in asked)
