"""Straight rulers, and the charts of three of them that read cubes with a straight thread."""

from rulertrees.cubes import NO_FORM, cayley, check_cube, forms_of
from rulertrees.errors import BadChart, BadRuler
from rulertrees.integers import is_square, shortened
from rulertrees.items import other_dials
from rulertrees.kinds import is_integers, is_tuple_of, is_word
from rulertrees.matrices import cross, inner, three_determinant
from rulertrees.normalcubes import to_normal_pieces, to_standard_cube
from rulertrees.places import check_place
from rulertrees.relations import check_places, root_place

# Two charts of the standard cube of 1, which is half of the product of all a + b less that of all a - b.
# The rulers lie on the sides of a triangle, the other way round in the second chart.
ROUND = (((1, -1, 0), (1, 1, 0)), ((0, 1, 1), (0, 1, -1)), ((1, 0, 1), (-1, 0, 1)))
OTHER_ROUND = (((1, 0, -1), (1, 0, 1)), ((1, 1, 0), (-1, 1, 0)), ((0, 1, 1), (0, -1, 1)))
# A chart of the standard cube of 0.
TANGENT = (((1, 0, 0), (0, 0, 1)), ((0, 1, 0), (0, 0, 1)), ((-1, -1, 0), (0, 0, 1)))
# The rulers for a part (1, 0), and for a piece (1, 0, 0, 1) of the two other dials.
PART_RULER = ((0, 0, 1), (1, 0, 0))
PIECE_RULERS = (((1, 0, 0), (0, 1, 0)), ((0, 1, 0), (-1, 0, 0)))


def is_ruler(thing):
    """Whether any value is a ruler."""
    if not is_tuple_of(thing, 2) or not all(is_integers(triple, 3) for triple in thing):
        return False
    return any(cross(thing[0], thing[1]))


def ruler_line(ruler):
    """The line on which all marks of a ruler lie."""
    return shortened(cross(ruler[0], ruler[1]))


def combined(a, u, b, v):
    """The tuple a u + b v."""
    return tuple(a * one + b * other for one, other in zip(u, v))


def mark(ruler, place):
    """The mark of a ruler at a place."""
    if not is_ruler(ruler):
        raise BadRuler(ruler)
    check_place(place)
    return shortened(combined(place[0], ruler[0], place[1], ruler[1]))


def is_straight(thing):
    """Whether any value is a straight chart."""
    if not is_tuple_of(thing, 3) or not all(is_ruler(ruler) for ruler in thing):
        return False
    line = ruler_line(thing[0])
    return any(ruler_line(ruler) != line for ruler in thing)


def check_straight(thing):
    """Raises BadChart with any value that is no straight chart."""
    if not is_straight(thing):
        raise BadChart(thing)


def straight_relation(chart):
    """The cube that holds exactly at the places that a straight chart reads."""
    check_straight(chart)
    one, other, third = chart
    return shortened(tuple(three_determinant(u, v, w) for u in one for v in other for w in third))


def straight_reads(chart, places):
    """Whether the marks of a straight chart at three places are in line."""
    check_straight(chart)
    check_places(places, 3)
    one, other, third = [mark(ruler, place) for ruler, place in zip(chart, places)]
    return three_determinant(one, other, third) == 0


def ruler_of(numbers):
    """The ruler with the six integers of two triples, divided by what divides all of them."""
    numbers = shortened(numbers)
    return (numbers[:3], numbers[3:])


def led_back(ruler, change):
    """The ruler whose mark at a place is the mark of a ruler at the place that the change moves there."""
    p, q, r, s = change
    first, second = ruler
    return ruler_of(combined(s, first, -r, second) + combined(-q, first, p, second))


def chart_back(rulers, changes):
    """The chart of a cube, the rulers being those of the cube changed by the changes."""
    return tuple(led_back(ruler, change) for ruler, change in zip(rulers, changes))


def part_rulers(dial):
    """Rulers for the cube with the part (1, 0) at a dial and the piece (1, 0, 0, 1) of the two others."""
    rulers = [PART_RULER] * 3
    for other, ruler in zip(other_dials(3, (dial,)), PIECE_RULERS):
        rulers[other] = ruler
    return tuple(rulers)


def judge_straight(cube):
    """A certificate that a cube has a straight chart, or that it has none."""
    check_cube(cube)
    number = cayley(cube)
    if not is_square(number):
        return ("none", "square")
    if number != 0:
        return ("chart", chart_back(ROUND, to_standard_cube(cube, 1)))
    kept = [dial for dial, form in enumerate(forms_of(cube)) if form != NO_FORM]
    if not kept:
        return ("none", "parts")
    if len(kept) == 1:
        return ("chart", chart_back(part_rulers(kept[0]), to_normal_pieces(cube)))
    return ("chart", chart_back(TANGENT, to_standard_cube(cube, 0)))


def straight_holds(cube, thing):
    """Whether any value is a certificate for a cube and its straight charts."""
    check_cube(cube)
    if not is_tuple_of(thing, 2):
        return False
    kind, told = thing
    if is_word(kind, "chart"):
        return is_straight(told) and straight_relation(told) == cube
    if not is_word(kind, "none"):
        return False
    if is_word(told, "square"):
        return not is_square(cayley(cube))
    return is_word(told, "parts") and all(form == NO_FORM for form in forms_of(cube))


def both_charts(cube):
    """Two straight charts of a full cube that are not alike; None for cubes that have not just two."""
    number = cayley(cube)
    if number == 0 or not is_square(number):
        return None
    changes = to_standard_cube(cube, 1)
    return (chart_back(ROUND, changes), chart_back(OTHER_ROUND, changes))


def meeting_places(chart):
    """For each two rulers, the place of the first one whose mark lies on the line of the second one."""
    lines = [ruler_line(ruler) for ruler in chart]
    # It is None where both lie on one line.
    return [root_place((inner(first, line), inner(second, line))) for first, second in chart for line in lines]


def are_alike_charts(one, other):
    """Whether one plane map leads all marks of a straight chart to those of another one."""
    check_straight(one)
    check_straight(other)
    # Charts of one cube differ in nothing but where their rulers meet: the two ways round of a full cube,
    # and the crossings of a cube with one part.
    return straight_relation(one) == straight_relation(other) and meeting_places(one) == meeting_places(other)
