"""Texts of relations: read, true or false at places, and written."""

from rulertrees.decimals import written_integer
from rulertrees.errors import AlwaysTrue, BadNames, BadPlaces, ByZero, FarPart, NeverTrue, TooHigh, TooManyNames
from rulertrees.integers import shortened
from rulertrees.items import bit_span, count_dials
from rulertrees.kinds import is_tuple_of
from rulertrees.places import FAR, are_places
from rulertrees.quotients import constant, evaluated, name_itself
from rulertrees.relations import MOST_DIALS, check_relation
from rulertrees.words import INTEGER, heading_and_equation, in_postfix, is_name, names_of_words


def names_in(text):
    """The names that stand in the equation of a text, in the order in which they first stand there."""
    return names_of_words(heading_and_equation(text)[1])


def integer_leaves(words, many):
    """The pairs of the integers among words, there being so many names."""
    return {word: constant(int(word), many) for kind, word, _ in words if kind == INTEGER}


def read_relation(text):
    """The relation of a text, and its names."""
    heading, words = heading_and_equation(text)
    names = names_of_words(words)
    leaves = integer_leaves(words, len(names))
    for at, name in enumerate(names):
        leaves[name] = name_itself(at, len(names))
    pair, zeros = evaluated(in_postfix(words), leaves)
    if zeros:
        raise ByZero(min(zeros))
    top = pair[0]
    standing = standing_names(top, names)
    if heading is None:
        heading = standing
    elif sorted(heading) != sorted(standing):
        raise BadNames(heading)
    return (relation_of_terms(top, names, heading), heading)


def standing_names(top, names):
    """The names that stand in a polynomial that has a relation; raises the error that tells why it has none."""
    if not top:
        raise AlwaysTrue()
    terms = list(top)
    highest = [max(exponents) for exponents in zip(*terms)]
    standing = tuple(name for name, exponent in zip(names, highest) if exponent > 0)
    if not standing:
        raise NeverTrue()
    for name, exponent in zip(names, highest):
        if exponent > 1:
            raise TooHigh(name)
    if len(standing) > MOST_DIALS:
        raise TooManyNames()
    return standing


def relation_of_terms(top, names, dials):
    """The relation with a dial for each of some names, with the coefficients of a polynomial in the names."""
    where = [names.index(name) for name in dials]
    items = [0] * (1 << len(dials))
    for exponents, number in top.items():
        index = 0
        for at in where:
            index = 2 * index + 1 - exponents[at]
        items[index] = number
    return shortened(items)


def truth_of(text, places):
    """Whether the equation of a text is true at places of its names; None if it is without meaning there."""
    words = heading_and_equation(text)[1]
    names = names_of_words(words)
    if not are_places(places, len(names)) or FAR in places:
        raise BadPlaces(places)
    leaves = integer_leaves(words, 0)
    for name, place in zip(names, places):
        # The bottom of a place that is not far is above 0, and nothing divides both.
        leaves[name] = (constant(place[0], 0)[0], constant(place[1], 0)[0])
    pair, zeros = evaluated(in_postfix(words), leaves)
    if zeros:
        return None
    return not pair[0]


def are_names(thing, many):
    """Whether any value is a tuple of so many unlike names."""
    if not is_tuple_of(thing, many) or not all(isinstance(name, str) and is_name(name) for name in thing):
        return False
    return len(set(thing)) == many


def written_term(number, names):
    """A term of a written relation, without its sign."""
    factors = list(names)
    if abs(number) != 1 or not factors:
        factors.insert(0, written_integer(abs(number)))
    return " * ".join(factors)


def check_no_far_part(relation):
    """Raises FarPart with the first dial with which the relation holds at the far place."""
    for dial in range(count_dials(relation)):
        span = bit_span(relation, dial)
        if not any(item for index, item in enumerate(relation) if index & span == 0):
            raise FarPart(dial)


def written(relation, names):
    """The text that consists of the names as heading, the terms of the relation, and = 0."""
    check_relation(relation)
    if not are_names(names, count_dials(relation)):
        raise BadNames(names)
    check_no_far_part(relation)
    text = ""
    for index, item in enumerate(relation):
        if item != 0:
            kept = [name for dial, name in enumerate(names) if index & bit_span(relation, dial) == 0]
            sign = " - " if item < 0 else " + "
            text += (sign if text else "") + written_term(item, kept)
    return " ".join(names) + ": " + text + " = 0"
