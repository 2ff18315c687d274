"""Matrices of two rows as tuples of four integers, triples, and their determinants."""


def two_determinant(matrix):
    """The determinant of the matrix with the rows (p, q) and (r, s)."""
    p, q, r, s = matrix
    return p * s - q * r


def two_product(one, other):
    """The product of two matrices of two rows."""
    p, q, r, s = one
    t, u, v, w = other
    return (p * t + q * v, p * u + q * w, r * t + s * v, r * u + s * w)


def two_adjoint(matrix):
    """The matrix whose product with the matrix is the determinant times the matrix that changes nothing."""
    p, q, r, s = matrix
    return (s, -q, -r, p)


def two_turned(matrix):
    """The matrix with its rows as columns."""
    p, q, r, s = matrix
    return (p, r, q, s)


def inner(one, other):
    """The sum of the products of the items of two triples."""
    return one[0] * other[0] + one[1] * other[1] + one[2] * other[2]


def cross(one, other):
    """The triple of the two-row determinants of two triples; its inner product with each of them is 0."""
    x, y, z = one
    u, v, w = other
    return (y * w - z * v, z * u - x * w, x * v - y * u)


def three_determinant(one, other, third):
    """The determinant with three triples as rows, or as columns."""
    return inner(cross(one, other), third)
