"""Proper cubes, told by the classes of their three upright forms."""

from rulertrees.cubes import DIALS, check_cube, forms_of, is_cube
from rulertrees.errors import BadCube, OtherForms
from rulertrees.gaussforms import change_leading, check_form, class_of, discriminant_of, form_classes, inverse_class
from rulertrees.gaussforms import is_positive, is_reduced, is_whole_change, led_form, product_class, reducing
from rulertrees.gaussforms import turns_of, united
from rulertrees.kinds import is_integer, is_tuple_of, is_word
from rulertrees.matrices import two_adjoint, two_product
from rulertrees.places import STAY
from rulertrees.relations import changed

# Changed by these, a cube becomes the four cubes of which at most one is proper.
FLIPS = (
    ((1, 0, 0, 1), (1, 0, 0, 1), (1, 0, 0, 1)),
    ((1, 0, 0, -1), (1, 0, 0, 1), (1, 0, 0, 1)),
    ((1, 0, 0, 1), (1, 0, 0, -1), (1, 0, 0, 1)),
    ((1, 0, 0, 1), (1, 0, 0, 1), (1, 0, 0, -1)),
)


def upright_forms(cube):
    """The upright forms of the three dials of a cube."""
    check_cube(cube)
    return tuple((-a, -b, -c) for a, b, c in forms_of(cube))


def is_proper(thing):
    """Whether any value is a proper cube."""
    return is_cube(thing) and all(is_positive(form) for form in upright_forms(thing))


def check_proper(thing):
    """Raises BadCube with any value that is no proper cube."""
    if not is_proper(thing):
        raise BadCube(thing)


def made_proper(cube):
    """The proper one of a cube and its three flips, None if there is none."""
    check_cube(cube)
    for flips in FLIPS:
        flipped = changed(cube, flips)
        if is_proper(flipped):
            return flipped
    return None


def judge_whole(one, other):
    """A certificate that two proper cubes are wholly alike, or that they are not."""
    check_proper(one)
    check_proper(other)
    ones, others = upright_forms(one), upright_forms(other)
    for dial in DIALS:
        if class_of(ones[dial]) != class_of(others[dial]):
            return ("apart", dial, reducing(ones[dial]), reducing(others[dial]))
    return ("whole", whole_changes_between(one, other))


def whole_changes_between(one, other):
    """Three whole changes by which a proper cube becomes another one, their forms being equivalent."""
    first, second, third = [change_leading(*pair) for pair in zip(upright_forms(one), upright_forms(other))]
    near = changed(one, (first, second, third))
    # The forms are equal now, and a turn of one dial leads to each of the cubes with these forms.
    turns = [turn for turn in turns_of(upright_forms(other)[0]) if changed(near, (turn, STAY, STAY)) == other]
    return (two_product(first, turns[0]), second, third)


def is_three_whole_changes(thing):
    """Whether any value is a tuple of three whole changes."""
    return is_tuple_of(thing, 3) and all(is_whole_change(change) for change in thing)


def is_dial_of_cube(thing):
    """Whether any value is a dial of a cube."""
    return is_integer(thing) and thing in DIALS


def whole_holds(one, other, thing):
    """Whether any value is a certificate for two proper cubes."""
    check_proper(one)
    check_proper(other)
    if is_tuple_of(thing, 2) and is_word(thing[0], "whole"):
        return is_three_whole_changes(thing[1]) and changed(one, thing[1]) == other
    if is_tuple_of(thing, 4) and is_word(thing[0], "apart"):
        return is_dial_of_cube(thing[1]) and apart_holds(upright_forms(one), upright_forms(other), thing)
    return False


def apart_holds(ones, others, thing):
    """Whether the changes of a certificate lead the forms of its dial to unlike reduced forms."""
    _, dial, one_change, other_change = thing
    if not is_whole_change(one_change) or not is_whole_change(other_change):
        return False
    first, second = led_form(ones[dial], one_change), led_form(others[dial], other_change)
    return is_reduced(first) and is_reduced(second) and first != second


def reduced_cube(cube):
    """The reduced cube to which a proper cube is wholly alike."""
    check_proper(cube)
    first, second, third = [class_of(form) for form in upright_forms(cube)]
    return cubes_of(first, second, third)[0]


def check_three_forms(first, second, third):
    """Raises BadForm with the first one that is no positive form, OtherForms if the discriminants are unlike."""
    forms = (first, second, third)
    for form in forms:
        check_form(form)
    if any(discriminant_of(form) != discriminant_of(first) for form in forms):
        raise OtherForms()


def cubes_of(first, second, third):
    """The ascending tuple of all proper cubes with these three upright forms."""
    check_three_forms(first, second, third)
    one, other = united(first, second)
    a, b, rest = led_form(first, one)
    d, _, _ = led_form(second, other)
    c = rest // d
    if class_of((a * d, -b, c)) != class_of(third):
        return ()
    # This cube has the two united forms and (a d, -b, c) as its upright forms.
    back = (two_adjoint(one), two_adjoint(other), change_leading((a * d, -b, c), third))
    cube = changed((0, 1, a, 0, d, 0, b, -c), back)
    return tuple(sorted([changed(cube, (turn, STAY, STAY)) for turn in turns_of(first)]))


def reduced_cubes(discriminant):
    """The ascending tuple of all reduced cubes with this Cayley number."""
    classes = form_classes(discriminant)
    found = []
    for first in classes:
        for second in classes:
            third = inverse_class(product_class(first, second))
            found.append(cubes_of(first, second, third)[0])
    return tuple(sorted(found))
