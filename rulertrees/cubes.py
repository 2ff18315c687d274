"""Cubes, the relations of three dials: their forms, Cayley's number, sorts, and which are alike."""

from rulertrees.errors import BadCube
from rulertrees.integers import shortened, square_class
from rulertrees.items import in_order, other_dials
from rulertrees.kinds import is_tuple_of, is_word, same_value
from rulertrees.matrices import two_adjoint, two_product
from rulertrees.normalcubes import to_normal
from rulertrees.places import are_changes
from rulertrees.relations import changed, check_dial, is_relation

DIALS = (0, 1, 2)
NO_FORM = (0, 0, 0)


def is_cube(thing):
    """Whether any value is a relation of three dials."""
    return is_relation(thing) and len(thing) == 8


def check_cube(thing):
    """Raises BadCube with any value that is no cube."""
    if not is_cube(thing):
        raise BadCube(thing)


def form_of(cube, dial):
    """The form (A, B, C) of a dial of a cube."""
    check_cube(cube)
    check_dial(dial, 3)
    k, m, n, o, p, q, r, s = in_order(cube, (dial,) + other_dials(3, (dial,)))
    return (k * o - m * n, k * s + p * o - m * r - q * n, p * s - q * r)


def forms_of(cube):
    """The forms of the three dials."""
    return tuple(form_of(cube, dial) for dial in DIALS)


def cayley(cube):
    """Cayley's number of a cube."""
    a, b, c = form_of(cube, 0)
    return b * b - 4 * a * c


def sort_of(cube):
    """The sort of a cube."""
    number = cayley(cube)
    if number != 0:
        return ("full", square_class(number))
    kept = [dial for dial, form in enumerate(forms_of(cube)) if form != NO_FORM]
    if not kept:
        return ("parts",)
    # The forms of the two dials other than that of a part are (0, 0, 0), so one is kept.
    if len(kept) == 1:
        return ("part", kept[0])
    return ("tangent",)


def standard(s):
    """The standard cube of 0 or of a square-free integer."""
    return (0, 1, 1, 0, 1, 0, 0, s)


def judge_alike(one, other):
    """A certificate that two cubes are alike, or that they are not."""
    check_cube(one)
    check_cube(other)
    sort, other_sort = sort_of(one), sort_of(other)
    if sort != other_sort:
        return ("unlike", sort, other_sort)
    return ("alike", changes_between(to_normal(one, sort), to_normal(other, sort)))


def changes_between(ones, others):
    """The changes of the first tuple, and then the inverses of those of the second one."""
    return tuple(shortened(two_product(one, two_adjoint(other))) for one, other in zip(ones, others))


def alike_holds(one, other, thing):
    """Whether any value is a certificate for two cubes."""
    check_cube(one)
    check_cube(other)
    if is_tuple_of(thing, 2) and is_word(thing[0], "alike"):
        return are_changes(thing[1], 3) and changed(one, thing[1]) == other
    if is_tuple_of(thing, 3) and is_word(thing[0], "unlike"):
        sorts = (sort_of(one), sort_of(other))
        return sorts[0] != sorts[1] and same_value(thing[1:], sorts)
    return False
