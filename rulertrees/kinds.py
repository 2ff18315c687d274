"""Questions about any value: whether it is an integer, a tuple of integers, or just a known value."""


def is_integer(thing):
    """Whether any value is an integer; True and False are none."""
    return isinstance(thing, int) and not isinstance(thing, bool)


def is_tuple_of(thing, many):
    """Whether any value is a tuple of just so many items."""
    return isinstance(thing, tuple) and len(thing) == many


def is_integers(thing, many):
    """Whether any value is a tuple of just so many integers."""
    return is_tuple_of(thing, many) and all(is_integer(item) for item in thing)


def is_word(thing, word):
    """Whether any value is just this string."""
    return isinstance(thing, str) and thing == word


def same_value(thing, known):
    """Whether any value is a known one, made of integers, strings and tuples.

    Python's == does not tell: for it True is 1.
    """
    if isinstance(known, tuple):
        return is_tuple_of(thing, len(known)) and all(same_value(part, item) for part, item in zip(thing, known))
    if isinstance(known, str):
        return is_word(thing, known)
    return is_integer(thing) and thing == known
