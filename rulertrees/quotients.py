"""Polynomials and trimmed pairs of them.

A polynomial is a dict of the coefficients, none of them 0, of the tuples of exponents, one for each name.
A pair is (top, bottom); the bottom is not zero.
"""

from math import gcd
from rulertrees.words import NEGATIVE


def constant(number, many):
    """The pair of an integer, there being so many names."""
    unit = (0,) * many
    return (without_zeros({unit: number}), {unit: 1})


def name_itself(at, many):
    """The pair of the name at an index among so many names."""
    exponents = tuple(1 if index == at else 0 for index in range(many))
    return ({exponents: 1}, {(0,) * many: 1})


def without_zeros(polynomial):
    """The polynomial without the coefficients that are 0."""
    return {exponents: number for exponents, number in polynomial.items() if number != 0}


def polynomial_sum(one, other):
    """The sum of two polynomials."""
    found = {exponents: number for exponents, number in one.items()}
    for exponents, number in other.items():
        found[exponents] = found.get(exponents, 0) + number
    return without_zeros(found)


def polynomial_product(one, other):
    """The product of two polynomials."""
    found = {}
    for first, number in one.items():
        for second, factor in other.items():
            exponents = tuple(low + high for low, high in zip(first, second))
            found[exponents] = found.get(exponents, 0) + number * factor
    return without_zeros(found)


def trimmed(top, bottom):
    """The pair divided by all integers and names that divide it, the first coefficient of its bottom above 0."""
    lead = max(list(bottom))
    if not top:
        return ({}, {(0,) * len(lead): 1})
    divisor = 0
    for number in list(top.values()) + list(bottom.values()):
        divisor = gcd(divisor, number)
    if bottom[lead] < 0:
        divisor = -divisor
    terms = list(top) + list(bottom)
    lows = [min(exponents) for exponents in zip(*terms)]
    return (divided(top, divisor, lows), divided(bottom, divisor, lows))


def divided(polynomial, divisor, lows):
    """A polynomial divided by an integer and by names as often as the lows say."""
    return {
        tuple(exponent - low for exponent, low in zip(exponents, lows)): number // divisor
        for exponents, number in polynomial.items()
    }


def negative(pair):
    """The pair with its top taken with the other sign."""
    top, bottom = pair
    return trimmed({exponents: -number for exponents, number in top.items()}, bottom)


def pair_sum(one, other):
    """The sum of two pairs."""
    top, bottom = one
    other_top, other_bottom = other
    if bottom == other_bottom:
        return trimmed(polynomial_sum(top, other_top), bottom)
    crossed = polynomial_sum(polynomial_product(top, other_bottom), polynomial_product(other_top, bottom))
    return trimmed(crossed, polynomial_product(bottom, other_bottom))


def pair_product(one, other):
    """The product of two pairs."""
    return trimmed(polynomial_product(one[0], other[0]), polynomial_product(one[1], other[1]))


def deed(kind, one, other):
    """The pair of a sign between two pairs; the second one does not have the top zero if the sign is /."""
    if kind == "*":
        return pair_product(one, other)
    if kind == "/":
        return pair_product(one, (other[1], other[0]))
    if kind == "+":
        return pair_sum(one, other)
    return pair_sum(one, negative(other))


def evaluated(postfix, leaves):
    """The pair for which words in postfix stand, and the indexes of all signs that divide a pair by zero.

    The leaves are the pairs of the names and integers by their words. What divides by zero, and all that it is
    part of, has no pair: None.
    """
    zeros = []
    stack = []
    for kind, word, at in postfix:
        if word in leaves:
            stack.append(leaves[word])
            continue
        last = stack.pop()
        if kind == NEGATIVE:
            stack.append(None if last is None else negative(last))
            continue
        first = stack.pop()
        if kind == "/" and last is not None and not last[0]:
            zeros.append(at)
            last = None
        stack.append(None if first is None or last is None else deed(kind, first, last))
    return (stack[0], zeros)
