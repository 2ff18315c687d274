"""Slow and plain answers straight from the definitions of DOC.md, for comparison."""

import itertools
import math
from fractions import Fraction

SMALL_PLACES = ((1, 0), (0, 1), (1, 1), (-1, 1), (2, 1), (1, 2), (-3, 2))


def is_int(thing):
    return type(thing) is int


def short(numbers):
    divisor = math.gcd(*numbers)
    if [number for number in numbers if number][0] < 0:
        divisor = -divisor
    return tuple(number // divisor for number in numbers)


def bits_of(count):
    return list(itertools.product((0, 1), repeat=count))


def value(relation, places):
    total = 0
    for item, bits in zip(relation, bits_of(len(places))):
        total += item * math.prod(place[bit] for place, bit in zip(places, bits))
    return total


def changed_items(relation, changes):
    rows = bits_of(len(changes))
    fresh = []
    for new in rows:
        total = 0
        for item, old in zip(relation, rows):
            total += item * math.prod(change[2 * o + n] for change, o, n in zip(changes, old, new))
        fresh.append(total)
    return tuple(fresh)


def changed(relation, changes):
    return short(changed_items(relation, changes))


def reordered(relation, order):
    rows = bits_of(len(order))
    where = dict(zip(rows, relation))
    fresh = []
    for new in rows:
        old = [0] * len(order)
        for position, dial in enumerate(order):
            old[dial] = new[position]
        fresh.append(where[tuple(old)])
    return short(fresh)


def rank(rows):
    rows = [[Fraction(entry) for entry in row] for row in rows]
    found = 0
    for column in range(len(rows[0])):
        pivot = next((k for k in range(found, len(rows)) if rows[k][column]), None)
        if pivot is None:
            continue
        rows[found], rows[pivot] = rows[pivot], rows[found]
        for k in range(found + 1, len(rows)):
            ratio = rows[k][column] / rows[found][column]
            rows[k] = [a - ratio * b for a, b in zip(rows[k], rows[found])]
        found += 1
    return found


def table(relation, dials):
    count = len(relation).bit_length() - 1
    where = dict(zip(bits_of(count), relation))
    others = [dial for dial in range(count) if dial not in dials]
    rows = []
    for row in bits_of(len(dials)):
        line = []
        for column in bits_of(len(others)):
            bits = dict(zip(dials, row)) | dict(zip(others, column))
            line.append(where[tuple(bits[dial] for dial in range(count))])
        rows.append(line)
    return rows


def form(cube, dial):
    """The determinant of the table at three places, and from them the form."""
    others = [other for other in range(3) if other != dial]

    def determinant(place):
        entries = []
        for row, column in bits_of(2):
            bits = [0, 0, 0]
            bits[others[0]], bits[others[1]] = row, column
            total = 0
            for bit in (0, 1):
                bits[dial] = bit
                total += place[bit] * cube[4 * bits[0] + 2 * bits[1] + bits[2]]
            entries.append(total)
        return entries[0] * entries[3] - entries[1] * entries[2]

    a, c = determinant((1, 0)), determinant((0, 1))
    return (a, determinant((1, 1)) - a - c, c)


def discriminant(one):
    return one[1] ** 2 - 4 * one[0] * one[2]


def squarefree(number):
    best = max(k for k in range(1, math.isqrt(abs(number)) + 1) if number % (k * k) == 0)
    return number // (best * best)


def sort(cube):
    forms = [form(cube, dial) for dial in range(3)]
    cayley = discriminant(forms[0])
    if cayley:
        return ("full", squarefree(cayley))
    alone = [dial for dial in range(3) if rank(table(cube, (dial,))) == 1]
    if len(alone) == 3:
        return ("parts",)
    return ("part", alone[0]) if alone else ("tangent",)


def is_short(thing):
    return any(thing) and short(thing) == thing


def is_ints(thing, count):
    return type(thing) is tuple and len(thing) == count and all(is_int(item) for item in thing)


def is_change(thing):
    return is_ints(thing, 4) and thing[0] * thing[3] != thing[1] * thing[2]


def is_whole_change(thing):
    return is_ints(thing, 4) and thing[0] * thing[3] - thing[1] * thing[2] == 1


def is_changes(thing, is_one=is_change):
    return type(thing) is tuple and len(thing) == 3 and all(is_one(change) for change in thing)


def alike_holds(one, other, thing):
    if type(thing) is not tuple or len(thing) < 2 or type(thing[0]) is not str:
        return False
    if thing[0] == "alike":
        return len(thing) == 2 and is_changes(thing[1]) and changed(one, thing[1]) == other
    if thing[0] != "unlike" or len(thing) != 3 or sort(one) == sort(other):
        return False
    return repr(thing[1:]) == repr((sort(one), sort(other)))


def led_form(one, change):
    """The form whose values are those at the moved integers, from three of its values."""
    p, q, r, s = change

    def at(x, y):
        u, v = p * x + q * y, r * x + s * y
        return one[0] * u * u + one[1] * u * v + one[2] * v * v

    return (at(1, 0), at(1, 1) - at(1, 0) - at(0, 1), at(0, 1))


def is_positive(thing):
    return is_ints(thing, 3) and thing[0] > 0 and discriminant(thing) < 0 and math.gcd(*thing) == 1


def is_reduced(one):
    a, b, c = one
    return -a < b <= a <= c and not (a == c and b < 0)


def upright(cube):
    return tuple(tuple(-number for number in form(cube, dial)) for dial in range(3))


def whole_holds(one, other, thing):
    if type(thing) is not tuple or len(thing) < 2 or type(thing[0]) is not str:
        return False
    if thing[0] == "whole":
        return len(thing) == 2 and is_changes(thing[1], is_whole_change) and changed(one, thing[1]) == other
    if thing[0] != "apart" or len(thing) != 4 or not is_int(thing[1]) or thing[1] not in (0, 1, 2):
        return False
    if not is_whole_change(thing[2]) or not is_whole_change(thing[3]):
        return False
    first, second = led_form(upright(one)[thing[1]], thing[2]), led_form(upright(other)[thing[1]], thing[3])
    return is_reduced(first) and is_reduced(second) and first != second


def determinant(rows):
    (a, b, c), (d, e, f), (g, h, i) = rows
    return a * (e * i - f * h) - b * (d * i - f * g) + c * (d * h - e * g)


def null_space(rows):
    """A basis of the tuples of fractions that all rows lead to 0."""
    rows = [[Fraction(entry) for entry in row] for row in rows]
    count = len(rows[0])
    pivots = []
    for column in range(count):
        at = len(pivots)
        pivot = next((k for k in range(at, len(rows)) if rows[k][column]), None)
        if pivot is None:
            continue
        rows[at], rows[pivot] = rows[pivot], rows[at]
        rows[at] = [entry / rows[at][column] for entry in rows[at]]
        for k in range(len(rows)):
            if k != at and rows[k][column]:
                rows[k] = [a - rows[k][column] * b for a, b in zip(rows[k], rows[at])]
        pivots.append(column)
    found = []
    for free in [column for column in range(count) if column not in pivots]:
        vector = [Fraction(0)] * count
        vector[free] = Fraction(1)
        for at, column in enumerate(pivots):
            vector[column] = -rows[at][free]
        found.append(vector)
    return found


def is_ruler(thing):
    if type(thing) is not tuple or len(thing) != 2 or not all(is_ints(triple, 3) for triple in thing):
        return False
    return rank(thing) == 2


def is_straight(thing):
    if type(thing) is not tuple or len(thing) != 3 or not all(is_ruler(ruler) for ruler in thing):
        return False
    return rank([triple for ruler in thing for triple in ruler]) == 3


def straight_relation(chart):
    return short(tuple(determinant([ruler[bit] for ruler, bit in zip(chart, bits)]) for bits in bits_of(3)))


def has_three_parts(cube):
    return all(rank(table(cube, (dial,))) == 1 for dial in range(3))


def straight_holds(cube, thing):
    if type(thing) is not tuple or len(thing) != 2 or type(thing[0]) is not str:
        return False
    if thing[0] == "chart":
        return is_straight(thing[1]) and straight_relation(thing[1]) == cube
    if thing[0] != "none" or type(thing[1]) is not str:
        return False
    if thing[1] == "parts":
        return has_three_parts(cube)
    number = discriminant(form(cube, 0))
    return thing[1] == "square" and (number < 0 or math.isqrt(number) ** 2 != number)


def is_bent(thing):
    if type(thing) is not tuple or len(thing) != 3 or not is_int(thing[0]) or thing[0] not in (0, 1, 2):
        return False
    return is_change(thing[1]) and is_ruler(thing[2])
