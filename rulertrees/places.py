"""Places on a ruler, and the changes that move them."""

from math import gcd
from rulertrees.errors import AllZero, BadChange, BadPlace
from rulertrees.integers import shortened
from rulertrees.kinds import is_integers, is_tuple_of
from rulertrees.matrices import two_adjoint, two_determinant, two_product

# The change that moves nothing.
STAY = (1, 0, 0, 1)
# The far place.
FAR = (1, 0)


def is_place(thing):
    """Whether any value is a place."""
    if not is_integers(thing, 2):
        return False
    a, b = thing
    return gcd(a, b) == 1 and (b > 0 or thing == FAR)


def place_of(a, b):
    """The place of a pair of integers that are not both 0."""
    divisor = gcd(a, b)
    if divisor == 0:
        raise AllZero()
    if b < 0 or (b == 0 and a < 0):
        divisor = -divisor
    return (a // divisor, b // divisor)


def is_change(thing):
    """Whether any value is a change."""
    return is_integers(thing, 4) and two_determinant(thing) != 0


def are_places(thing, many):
    """Whether any value is a tuple of just so many places."""
    return is_tuple_of(thing, many) and all(is_place(place) for place in thing)


def are_changes(thing, many):
    """Whether any value is a tuple of just so many changes."""
    return is_tuple_of(thing, many) and all(is_change(change) for change in thing)


def check_place(thing):
    """Raises BadPlace with any value that is no place."""
    if not is_place(thing):
        raise BadPlace(thing)


def check_change(thing):
    """Raises BadChange with any value that is no change."""
    if not is_change(thing):
        raise BadChange(thing)


def moved(change, place):
    """The place to which a change moves a place."""
    check_change(change)
    check_place(place)
    p, q, r, s = change
    a, b = place
    return place_of(p * a + q * b, r * a + s * b)


def change_product(one, other):
    """The change that moves a place as the second change and then the first one do."""
    check_change(one)
    check_change(other)
    return two_product(one, other)


def change_inverse(change):
    """The change that moves each place back."""
    check_change(change)
    return two_adjoint(change)


def check_unlike_places(places):
    """Raises BadPlace with the first item that is no place or stands earlier in the tuple."""
    for at, place in enumerate(places):
        check_place(place)
        if place in places[:at]:
            raise BadPlace(place)


def change_from_frame(places):
    """The change that moves (1, 0), (0, 1) and (1, 1) to three unlike places."""
    (a, b), (c, d), (e, f) = places
    # The third place is a sum of multiples of the other two, by Cramer's rule.
    first = e * d - f * c
    second = a * f - b * e
    return (first * a, second * c, first * b, second * d)


def change_between(ones, others):
    """A change that moves three unlike places, in their order, to three other ones."""
    check_unlike_places(ones)
    check_unlike_places(others)
    back = two_adjoint(change_from_frame(ones))
    return shortened(two_product(change_from_frame(others), back))
