"""Points and lines of the plane, plane maps, and the bow."""

from rulertrees.errors import BadMap, BadPoint
from rulertrees.integers import is_short, shortened
from rulertrees.kinds import is_integers
from rulertrees.matrices import cross, inner, three_determinant
from rulertrees.places import check_place


def is_point(thing):
    """Whether any value is a short triple of integers."""
    return is_integers(thing, 3) and is_short(thing)


def check_point(thing):
    """Raises BadPoint with any value that is no point or line."""
    if not is_point(thing):
        raise BadPoint(thing)


def lies_on(point, line):
    """Whether a point lies on a line."""
    check_point(point)
    check_point(line)
    return inner(point, line) == 0


def line_through(one, other):
    """The line through two points, None if they are equal."""
    check_point(one)
    check_point(other)
    if one == other:
        return None
    return shortened(cross(one, other))


def meeting(one, other):
    """The common point of two lines, None if they are equal."""
    # Points and lines are both short triples, and u x + v y + w z treats them alike.
    return line_through(one, other)


def are_in_line(points):
    """Whether some line goes through all points of a tuple."""
    for point in points:
        check_point(point)
    unlike = [point for point in points if point != points[0]]
    if not unlike:
        return True
    line = cross(points[0], unlike[0])
    return all(inner(line, point) == 0 for point in unlike)


def map_rows(numbers):
    """The three rows of nine integers."""
    return (numbers[:3], numbers[3:6], numbers[6:])


def map_determinant(numbers):
    """The determinant of three rows of three integers."""
    one, other, third = map_rows(numbers)
    return three_determinant(one, other, third)


def is_map(thing):
    """Whether any value is a plane map."""
    return is_integers(thing, 9) and map_determinant(thing) != 0


def led(map_of, point):
    """The point to which a plane map leads a point."""
    if not is_map(map_of):
        raise BadMap(map_of)
    check_point(point)
    return shortened(tuple(inner(row, point) for row in map_rows(map_of)))


def check_free_points(points):
    """Raises BadPoint with the first item that is no point, or equal to or in line with ones ahead of it."""
    for at, point in enumerate(points):
        check_point(point)
        ahead = points[:at]
        if point in ahead:
            raise BadPoint(point)
        for second in range(at):
            if any(three_determinant(first, ahead[second], point) == 0 for first in ahead[:second]):
                raise BadPoint(point)


def scaled_points(points):
    """Multiples of the first three of four points, in no way in line, whose sum is a multiple of the fourth."""
    one, other, third, last = points
    # These are the numbers of Cramer's rule.
    many = three_determinant(last, other, third)
    other_many = three_determinant(one, last, third)
    third_many = three_determinant(one, other, last)
    return (scaled(many, one), scaled(other_many, other), scaled(third_many, third))


def scaled(many, triple):
    """A multiple of a triple."""
    return tuple(many * number for number in triple)


def map_between(ones, others):
    """A plane map that leads four points, no three of them in line, to four other such points."""
    check_free_points(ones)
    check_free_points(others)
    one, other, third = scaled_points(ones)
    # These rows are a multiple of the map that leads the three scaled points to the three unit triples.
    back = (cross(other, third), cross(third, one), cross(one, other))
    ahead = scaled_points(others)
    return shortened(tuple(
        sum(ahead[k][row] * back[k][column] for k in range(3)) for row in range(3) for column in range(3)
    ))


def bow_point(place):
    """The point of the bow that belongs to a place."""
    check_place(place)
    a, b = place
    return (a * a, a * b, b * b)


def chord(one, other):
    """The line through the points of the bow of two places, the tangent if the places are equal."""
    check_place(one)
    check_place(other)
    a, b = one
    c, d = other
    return shortened((b * d, -(a * d + b * c), a * c))
