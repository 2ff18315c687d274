"""Bent charts: the marks of two dials on the bow, and a straight ruler for the third one."""

from itertools import combinations
from rulertrees.cubes import DIALS, check_cube
from rulertrees.errors import BadChart
from rulertrees.gaussforms import form_value
from rulertrees.integers import shortened
from rulertrees.items import in_order, other_dials, with_change
from rulertrees.kinds import is_integer, is_tuple_of
from rulertrees.matrices import inner, two_adjoint, two_determinant, two_product
from rulertrees.pieces import is_whole
from rulertrees.places import is_change
from rulertrees.relations import check_dial, check_places, holds
from rulertrees.straight import combined, is_ruler, ruler_of

# The chord of the places (a, b) and (c, d) is the sum of a c, a d, b c and b d times these.
CHORD_PARTS = ((0, 0, 1), (0, -1, 0), (0, -1, 0), (1, 0, 0))


def is_bent(thing):
    """Whether any value is a bent chart."""
    if not is_tuple_of(thing, 3):
        return False
    dial, change, ruler = thing
    return is_integer(dial) and dial in DIALS and is_change(change) and is_ruler(ruler)


def check_bent(thing):
    """Raises BadChart with any value that is no bent chart."""
    if not is_bent(thing):
        raise BadChart(thing)


def bent_relation(chart):
    """The cube that holds exactly at the places that a bent chart reads."""
    check_bent(chart)
    dial, change, ruler = chart
    items = tuple(inner(part, triple) for part in CHORD_PARTS for triple in ruler)
    dials = other_dials(3, (dial,)) + (dial,)
    return shortened(in_order(with_change(items, 1, change), tuple(dials.index(at) for at in DIALS)))


def bent_reads(chart, places):
    """Whether the mark of the straight ruler lies on the chord of the other two marks."""
    check_bent(chart)
    check_places(places, 3)
    return holds(bent_relation(chart), places)


def halves_of(cube, dial):
    """The tables of the two other dials that belong to the two integers of a place of a dial."""
    items = in_order(cube, (dial,) + other_dials(3, (dial,)))
    return (items[:4], items[4:])


def minor(one, other, low, high):
    """The determinant of two columns of two rows."""
    return one[low] * other[high] - one[high] * other[low]


def common_roots(one, other):
    """Two tuples that span all tuples of four integers whose inner products with two unlike ones are 0."""
    low, high = [pair for pair in combinations(range(4), 2) if minor(one, other, pair[0], pair[1]) != 0][0]
    found = []
    for free in other_dials(4, (low, high)):
        # This is Cramer's rule for the items low and high.
        root = [0, 0, 0, 0]
        root[free] = minor(one, other, low, high)
        root[low] = minor(one, other, high, free)
        root[high] = minor(one, other, free, low)
        found.append(shortened(root))
    return tuple(found)


def bend_form(cube, dial):
    """Two tuples that span the changes of all bent charts of a cube with a dial, and their determinant as a form."""
    check_cube(cube)
    check_dial(dial, 3)
    if not is_whole(cube):
        return None
    # By the change, both tables must become symmetric ones: this is one equation for each of them.
    one, other = [(-b, a, -d, c) for a, b, c, d in halves_of(cube, dial)]
    g, h = common_roots(one, other)
    first, last = two_determinant(g), two_determinant(h)
    return (g, h, (first, two_determinant(combined(1, g, 1, h)) - first - last, last))


def bent_chart(cube, dial):
    """A bent chart of a cube with a dial on the straight ruler, None if there is none."""
    found = bend_form(cube, dial)
    if found is None:
        return None
    g, h, form = found
    # A form that is not (0, 0, 0) is 0 at two places at most.
    x, y = [pair for pair in ((1, 0), (0, 1), (1, 1)) if form_value(form, pair[0], pair[1]) != 0][0]
    change = shortened(combined(x, g, y, h))
    numbers = []
    for half in halves_of(cube, dial):
        low, middle, _, high = two_product(half, two_adjoint(change))
        numbers.extend((high, -middle, low))
    return (dial, change, ruler_of(numbers))
