"""Rings of cubes that are tied at seams: their passes, rounds, forms and numbers, and rings told otherwise."""

from rulertrees.cubes import is_cube
from rulertrees.errors import BadChanges, BadRing, BadSeam
from rulertrees.items import with_place
from rulertrees.kinds import is_integer, is_tuple_of
from rulertrees.matrices import two_product
from rulertrees.places import FAR, STAY, are_changes, is_place
from rulertrees.relations import changed, reordered

MOST_LINKS = 8


def is_link(thing):
    """Whether any value is a pair of a cube and a place."""
    return is_tuple_of(thing, 2) and is_cube(thing[0]) and is_place(thing[1])


def is_ring(thing):
    """Whether any value is a ring."""
    if not isinstance(thing, tuple) or not 0 < len(thing) <= MOST_LINKS:
        return False
    return all(is_link(link) for link in thing)


def check_ring(thing):
    """Raises BadRing with any value that is no ring."""
    if not is_ring(thing):
        raise BadRing(thing)


def check_seam(ring, seam):
    """Raises BadSeam with any value that is no seam of a ring."""
    if not is_integer(seam) or not 0 <= seam < len(ring):
        raise BadSeam(seam)


def pass_of(link):
    """The pass of a link."""
    cube, place = link
    both, entry, exit_alone, none = with_place(cube, 2, place)
    return (-entry, -none, both, exit_alone)


def passes(ring):
    """The passes of the links of a ring."""
    check_ring(ring)
    return tuple(pass_of(link) for link in ring)


def begun_at(ring, seam):
    """The ring that begins at the link of a number."""
    check_ring(ring)
    check_seam(ring, seam)
    return ring[seam:] + ring[:seam]


def round_of(ring):
    """The product of the passes of a ring, the one of its first link moving first."""
    product = STAY
    for one in passes(ring):
        product = two_product(one, product)
    return product


def round_at(ring, seam):
    """The round of a ring at a seam."""
    return round_of(begun_at(ring, seam))


def ring_form(ring, seam):
    """The ring form at a seam, which is 0 at the places that the round leaves where they are."""
    p, q, r, s = round_at(ring, seam)
    return (r, s - p, -q)


def ring_number(ring):
    """The ring number, which is the same at all seams."""
    p, q, r, s = round_of(ring)
    return (s - p) * (s - p) + 4 * q * r


def edge_form(ring, link):
    """The ring number as a form in the place of the link of a number."""
    rest = begun_at(ring, link)
    cube = rest[0][0]
    # A form is told by its values at three places.
    first, last, both = [ring_number(((cube, place),) + rest[1:]) for place in (FAR, (0, 1), (1, 1))]
    return (first, both - first - last, last)


def turned_round(ring):
    """The ring whose links stand the other way round, their entries and exits exchanged."""
    check_ring(ring)
    return tuple((reordered(cube, (1, 0, 2)), place) for cube, place in reversed(ring))


def seams_changed(ring, changes):
    """The ring whose cubes are changed at their entries and exits by the changes of the seams."""
    check_ring(ring)
    if not are_changes(changes, len(ring)):
        raise BadChanges(changes)
    # The exit of each link is the next seam, and that of the last one the first.
    exits = changes[1:] + changes[:1]
    return tuple(
        (changed(cube, (entry, out, STAY)), place) for (cube, place), entry, out in zip(ring, changes, exits)
    )
