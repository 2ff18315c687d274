"""Standings of rings: places for the seams at which all links hold."""

from math import isqrt
from rulertrees.cubes import NO_FORM
from rulertrees.integers import is_square
from rulertrees.kinds import is_tuple_of, is_word, same_value
from rulertrees.places import FAR, are_places, check_place, place_of
from rulertrees.relations import holds, last_place
from rulertrees.rings import begun_at, check_ring, check_seam, ring_form, ring_number

# Any three unlike places will do.
THREE_PLACES = ((0, 1), (1, 0), (1, 1))


def is_standing(ring, thing):
    """Whether any value is a standing of a ring."""
    check_ring(ring)
    if not are_places(thing, len(ring)):
        return False
    exits = thing[1:] + thing[:1]
    return all(holds(cube, (entry, out, place)) for (cube, place), entry, out in zip(ring, thing, exits))


def exits_from(ring, place):
    """What the links leave for their exits, one after the other, with a place at the first entry.

    It is one place, or None if they leave every place.
    """
    found = []
    for cube, at_link in ring:
        # An entry that may be at every place has one for each place of the exit.
        place = None if place is None else last_place(cube, 1, (place, at_link))
        found.append(place)
    return found


def round_from(ring, place):
    """A standing of a ring with a place at its first seam, None if there is none."""
    seen = exits_from(ring, place)
    if seen[-1] is not None and seen[-1] != place:
        return None
    back = [place]
    for at in range(len(ring) - 1, 0, -1):
        # The exit is settled, and all that stands ahead of the link leaves its place for it.
        cube, at_link = ring[at]
        entry = seen[at - 1]
        if entry is None:
            entry = last_place(cube, 0, (back[-1], at_link))
        back.append(FAR if entry is None else entry)
    return (place,) + tuple(back[:0:-1])


def standing_with(ring, seam, place):
    """A standing of a ring that has a place at a seam, None if there is none."""
    check_ring(ring)
    check_seam(ring, seam)
    check_place(place)
    found = round_from(begun_at(ring, seam), place)
    if found is None:
        return None
    many = len(ring)
    return found[many - seam:] + found[:many - seam]


def roots_of(form):
    """The places at which a form that is not (0, 0, 0) is 0, its discriminant being a square."""
    a, b, c = form
    if a == 0:
        return (FAR, place_of(-c, b))
    root = isqrt(b * b - 4 * a * c)
    return (place_of(-b - root, 2 * a), place_of(-b + root, 2 * a))


def judge_ring(ring):
    """A certificate that tells all standings of a ring, three of infinitely many, or that there is none."""
    check_ring(ring)
    for seam in range(len(ring)):
        if ring_form(ring, seam) == NO_FORM:
            # Then each place of this seam has a standing.
            return ("many", tuple(sorted([standing_with(ring, seam, place) for place in THREE_PLACES])))
    number = ring_number(ring)
    if not is_square(number):
        return ("none", isqrt(number) if number > 0 else 0)
    roots = set(roots_of(ring_form(ring, 0)))
    return ("standings", tuple(sorted([standing_with(ring, 0, place) for place in sorted(roots)])))


def are_three_standings(ring, thing):
    """Whether any value is an ascending tuple of three standings of a ring."""
    if not is_tuple_of(thing, 3) or not all(is_standing(ring, standing) for standing in thing):
        return False
    return thing[0] < thing[1] < thing[2]


def ring_holds(ring, thing):
    """Whether any value is a certificate for a ring."""
    check_ring(ring)
    if is_tuple_of(thing, 2) and is_word(thing[0], "many"):
        # No ring has more than two standings and not infinitely many.
        return are_three_standings(ring, thing[1])
    # Of the other kinds a ring has one certificate at most.
    return same_value(thing, judge_ring(ring))
