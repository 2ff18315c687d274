"""Places for all dials of a relation but three, such that a whole cube is left."""

from rulertrees.integers import shortened
from rulertrees.items import count_dials, with_place
from rulertrees.pieces import is_whole

# A cube is whole if two of its forms are not (0, 0, 0). Their integers have the degree 2 in each other dial,
# so the product of one of each has the degree 4, and is not 0 at one of any five places.
TRIED = ((1, 0), (0, 1), (1, 1), (-1, 1), (2, 1))


def cube_within(items, dials):
    """The places of the other dials, ascending, and the whole cube that is left of the items in three dials.

    None if there are no such places.
    """
    many = count_dials(items)
    if many == 3:
        cube = shortened(items)
        return ((), cube) if is_whole(cube) else None
    last = [dial for dial in range(many) if dial not in dials][-1]
    left = tuple(dial if dial < last else dial - 1 for dial in dials)
    for place in TRIED:
        rest = with_place(items, last, place)
        found = cube_within(rest, left) if any(rest) else None
        if found is not None:
            return (found[0] + (place,), found[1])
    return None
