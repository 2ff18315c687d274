"""Changes that make a normal cube of a cube: the same one of all cubes of one sort."""

from math import isqrt
from rulertrees.integers import shortened
from rulertrees.items import with_change
from rulertrees.matrices import two_adjoint, two_determinant, two_product, two_turned
from rulertrees.pieces import pieces
from rulertrees.places import STAY

# Their first columns are three unlike places, and a form that is not (0, 0, 0) is 0 at two at most.
STARTS = ((1, 0, 0, 1), (0, 1, 1, 0), (1, 0, 1, 1))
# The first half of every standard cube.
EXCHANGE = (0, 1, 1, 0)


def to_normal(cube, sort):
    """Three changes by which a cube of this sort becomes the normal cube of the sort."""
    if sort[0] == "full":
        changes = to_standard_cube(cube, sort[1])
    elif sort[0] == "tangent":
        changes = to_standard_cube(cube, 0)
    else:
        changes = to_normal_pieces(cube)
    return tuple(shortened(change) for change in changes)


def to_normal_pieces(cube):
    """Changes that make each part (1, 0), and the piece of two dials, if there is one, (1, 0, 0, 1)."""
    changes = [STAY, STAY, STAY]
    for dials, piece in pieces(cube):
        if len(dials) == 1:
            p, q = piece
            changes[dials[0]] = (p, q, q, -p)
        else:
            changes[dials[0]] = two_turned(two_adjoint(piece))
    return changes


def first_start(cube):
    """A change of the dial 0 that makes the first half of a whole cube a matrix with a determinant other than 0."""
    return [start for start in STARTS if two_determinant(with_change(cube, 0, start)[:4]) != 0][0]


def to_standard_cube(cube, s):
    """Changes that make the standard cube of s of a whole cube, s being its square class, or 0 if it is tangent."""
    start = first_start(cube)
    halves = with_change(cube, 0, start)
    low, high = halves[:4], halves[4:]
    size = two_determinant(low)
    p, q, r, t = two_product(two_adjoint(low), high)
    trace = p + t
    # With 2 size high - trace low as its second half, the cube has a matrix of trace 0 that leads from the
    # first half to the second one. The square of such a matrix is a number: Cayley's, which is s root root.
    matrix = (p - t, 2 * q, 2 * r, t - p)
    root = isqrt(-two_determinant(matrix) // s) if s != 0 else 1
    basis = basis_of_root(matrix, root)
    ahead = two_product(start, (root, -trace, 0, 2 * size))
    other = two_product(EXCHANGE, two_product(two_adjoint(basis), two_adjoint(low)))
    return (ahead, two_turned(other), basis)


def basis_of_root(matrix, root):
    """The columns root v and matrix v, not in line, for a matrix of trace 0 that is not 0."""
    p, q, r, _ = matrix
    if r != 0:
        return (root, p, 0, r)
    if q != 0:
        return (0, q, root, -p)
    return (root, p, root, -p)
