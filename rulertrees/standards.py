"""Standard relations, and the relations that are alike to them."""

from rulertrees.cubes import cayley
from rulertrees.integers import shortened, square_class
from rulertrees.items import count_dials, with_changes, with_place
from rulertrees.matrices import two_adjoint
from rulertrees.normalcubes import to_standard_cube
from rulertrees.pieces import check_whole
from rulertrees.places import STAY
from rulertrees.settings import cube_within
from rulertrees.splits import rank_of, splits_of

# The first three dials are kept where all others are set.
KEPT = (0, 1, 2)


def standard_relation(n, s):
    """The relation whose value is the coefficient of the root of s in the product of all a + b root."""
    # The product of dials, so far, is one part without the root and one with it.
    plain, rooted = (1,), (0,)
    for _ in range(n):
        plain, rooted = (
            tuple(item for a, b in zip(plain, rooted) for item in (a, s * b)),
            tuple(item for a, b in zip(plain, rooted) for item in (b, a)),
        )
    return rooted


def has_low_ranks(relation):
    """Whether all splits of a relation have a rank of at most two."""
    return all(rank_of(relation, dials) <= 2 for dials in splits_of(count_dials(relation), 2))


def class_of_cube(cube):
    """The s of the standard cube to which a whole cube is alike."""
    number = cayley(cube)
    return square_class(number) if number != 0 else 0


def standard_of(relation):
    """The s of the standard relation to which a whole relation is alike, None if there is none."""
    check_whole(relation)
    if not has_low_ranks(relation):
        return None
    _, cube = cube_within(relation, KEPT)
    return class_of_cube(cube)


def to_standard(relation):
    """Changes by which a whole relation becomes the standard relation that it is alike to; None if there is none."""
    s = standard_of(relation)
    if s is None:
        return None
    many = count_dials(relation)
    places, cube = cube_within(relation, KEPT)
    changes = tuple(shortened(change) for change in to_standard_cube(cube, s))
    items = with_changes(relation, changes + (STAY,) * (many - 3))
    return changes + tuple(change_of_other(items, dial, places) for dial in range(3, many))


def change_of_other(items, dial, places):
    """The change that makes a dial behind the first three a standard one, these being so at the places."""
    rest = items
    for other in range(len(places) + 2, 2, -1):
        if other != dial:
            rest = with_place(rest, other, places[other - 3])
    # As numbers u + v root, the first three dials and this one have a product; with 1 for all three the
    # coefficient of its root is v, and with the root for one of them it is u.
    rest = with_place(with_place(rest, 2, (1, 0)), 1, (1, 0))
    v, u = rest[:2], rest[2:]
    return shortened(two_adjoint(u + v))
