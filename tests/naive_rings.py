"""Slow and plain answers about rings of cubes, straight from the definitions of DOC.md."""

import itertools
import math
from tests import naive

UNITS = ((1, 0), (0, 1))


def is_place(thing):
    return naive.is_ints(thing, 2) and (thing == (1, 0) or thing[1] > 0 and math.gcd(*thing) == 1)


def place_of(a, b):
    divisor = math.gcd(a, b) * (-1 if b < 0 or b == 0 and a < 0 else 1)
    return (a // divisor, b // divisor)


def is_ring(thing):
    if type(thing) is not tuple or not 1 <= len(thing) <= 8:
        return False
    for link in thing:
        if type(link) is not tuple or len(link) != 2 or not is_place(link[1]):
            return False
        if not naive.is_ints(link[0], 8) or not naive.is_short(link[0]):
            return False
    return True


def pass_of(link):
    """The pass from the values of the cube at the places (1, 0) and (0, 1) of its entry and exit."""
    cube, place = link
    (m00, m01), (m10, m11) = [[naive.value(cube, (one, other, place)) for other in UNITS] for one in UNITS]
    return (-m01, -m11, m00, m10)


def product(one, other):
    return tuple(sum(one[2 * row + k] * other[2 * k + column] for k in (0, 1)) for row in (0, 1) for column in (0, 1))


def round_at(ring, seam):
    """The product of the passes in the order in which the link of the seam comes first: it stands last."""
    found = (1, 0, 0, 1)
    for at in range(seam, seam + len(ring)):
        found = product(pass_of(ring[at % len(ring)]), found)
    return found


def ring_form(ring, seam):
    p, q, r, s = round_at(ring, seam)
    return (r, s - p, -q)


def ring_number(ring, seam=0):
    p, q, r, s = round_at(ring, seam)
    return (s - p) ** 2 + 4 * q * r


def is_standing(ring, thing):
    if type(thing) is not tuple or len(thing) != len(ring) or not all(is_place(place) for place in thing):
        return False
    many = len(ring)
    return all(naive.value(cube, (thing[k], thing[(k + 1) % many], place)) == 0 for k, (cube, place) in enumerate(ring))


def standings_in(ring, box):
    """All standings of a ring with places of a box."""
    found = [(place,) for place in box]
    for k, (cube, place) in enumerate(ring[:-1]):
        found = [row + (out,) for row in found for out in box if naive.value(cube, (row[-1], out, place)) == 0]
    cube, place = ring[-1]
    return sorted(row for row in found if naive.value(cube, (row[-1], row[0], place)) == 0)


def root_places(form):
    """The places at which a form that is not (0, 0, 0) is 0: tried out among all that can be."""
    a, b, c = form
    discriminant = b * b - 4 * a * c
    if discriminant < 0 or math.isqrt(discriminant) ** 2 != discriminant:
        return []
    root = math.isqrt(discriminant)
    tried = {(1, 0)}
    for top, bottom in itertools.product((-b - root, -b + root, -c, 2 * c), (2 * a, b, -b - root, -b + root)):
        if (top, bottom) != (0, 0):
            tried.add(place_of(top, bottom))
    return sorted((u, v) for u, v in tried if a * u * u + b * u * v + c * v * v == 0)


def how_many(ring):
    """How many standings a ring has, None if infinitely many, as [12.3] tells."""
    if any(ring_form(ring, seam) == (0, 0, 0) for seam in range(len(ring))):
        return None
    return len(root_places(ring_form(ring, 0)))


def ring_holds(ring, thing):
    if type(thing) is not tuple or len(thing) != 2 or type(thing[0]) is not str:
        return False
    kind, told = thing
    if kind == "none":
        number = ring_number(ring)
        if not naive.is_int(told):
            return False
        return number < 0 and told == 0 or told > 0 and told * told < number < (told + 1) * (told + 1)
    if kind not in ("standings", "many") or type(told) is not tuple or not 1 <= len(told) <= 3:
        return False
    if not all(is_standing(ring, standing) for standing in told) or list(told) != sorted(set(told)):
        return False
    return len(told) == 3 if kind == "many" else len(told) == how_many(ring)
