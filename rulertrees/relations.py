"""Relations of degree one in each dial: values, last places, changes, orders and products."""

from rulertrees.errors import BadChanges, BadDial, BadOrder, BadPlaces, BadRelation, TooManyDials
from rulertrees.integers import is_short, shortened
from rulertrees.items import count_dials, in_order, with_changes, with_place
from rulertrees.kinds import is_integer, is_integers
from rulertrees.places import are_changes, are_places, place_of

MOST_DIALS = 6
LENGTHS = (2, 4, 8, 16, 32, 64)


def is_relation(thing):
    """Whether any value is a relation."""
    if not isinstance(thing, tuple) or len(thing) not in LENGTHS:
        return False
    return is_integers(thing, len(thing)) and is_short(thing)


def check_relation(thing):
    """Raises BadRelation with any value that is no relation."""
    if not is_relation(thing):
        raise BadRelation(thing)


def check_three_dials(thing):
    """Raises BadRelation with any value that is no relation of three dials or more."""
    if not is_relation(thing) or count_dials(thing) < 3:
        raise BadRelation(thing)


def check_dial(dial, many):
    """Raises BadDial with any value that is no integer from 0 up and below so many."""
    if not is_integer(dial) or dial < 0 or dial >= many:
        raise BadDial(dial)


def check_places(places, many):
    """Raises BadPlaces with any value that is no tuple of just so many places."""
    if not are_places(places, many):
        raise BadPlaces(places)


def dials_of(relation):
    """How many dials a relation has."""
    check_relation(relation)
    return count_dials(relation)


def value(relation, places):
    """The value of a relation at a place for each dial."""
    check_relation(relation)
    check_places(places, count_dials(relation))
    rest = relation
    for place in places:
        rest = with_place(rest, 0, place)
    return rest[0]


def holds(relation, places):
    """Whether a relation holds at a place for each dial."""
    return value(relation, places) == 0


def last_place(relation, dial, places):
    """The place of a dial, the places of the others being given; None if every place will do."""
    check_relation(relation)
    many = count_dials(relation)
    check_dial(dial, many)
    check_places(places, many - 1)
    rest = relation
    for place in places[:dial]:
        rest = with_place(rest, 0, place)
    for place in places[dial:]:
        rest = with_place(rest, 1, place)
    return root_place(rest)


def root_place(pair):
    """The place (a, b) where x a + y b is 0 for a pair (x, y); None if it is 0 at every place."""
    x, y = pair
    if x == 0 and y == 0:
        return None
    return place_of(y, -x)


def changed(relation, changes):
    """The relation that holds at places if the relation holds where the changes move them."""
    check_relation(relation)
    if not are_changes(changes, count_dials(relation)):
        raise BadChanges(changes)
    return shortened(with_changes(relation, changes))


def reordered(relation, order):
    """The relation with the dial at position k of the order as its dial k."""
    check_relation(relation)
    many = count_dials(relation)
    if not is_integers(order, many) or sorted(order) != list(range(many)):
        raise BadOrder(order)
    # In another order another item may be the first one that is not 0.
    return shortened(in_order(relation, order))


def times(one, other):
    """The relation that holds if the first one does at the first places, or the second one at the last."""
    check_relation(one)
    check_relation(other)
    if count_dials(one) + count_dials(other) > MOST_DIALS:
        raise TooManyDials()
    # A product of short tuples is short.
    return tuple(first * second for first in one for second in other)
