"""Positive forms, their classes, and the products of classes."""

from math import gcd
from rulertrees.errors import BadChange, BadForm, OtherForms
from rulertrees.integers import bezout, common_divisor
from rulertrees.kinds import is_integers
from rulertrees.matrices import two_adjoint, two_determinant, two_product
from rulertrees.places import STAY


def discriminant_of(form):
    """The discriminant of a form."""
    a, b, c = form
    return b * b - 4 * a * c


def is_positive(thing):
    """Whether any value is a positive form."""
    return is_integers(thing, 3) and thing[0] > 0 and discriminant_of(thing) < 0 and common_divisor(thing) == 1


def is_whole_change(thing):
    """Whether any value is a whole change."""
    return is_integers(thing, 4) and two_determinant(thing) == 1


def is_reduced(form):
    """Whether a positive form is reduced."""
    a, b, c = form
    return -a < b <= a <= c and (b >= 0 or a < c)


def check_form(thing):
    """Raises BadForm with any value that is no positive form."""
    if not is_positive(thing):
        raise BadForm(thing)


def check_two_forms(one, other):
    """Raises BadForm with the first one that is no positive form, OtherForms if the discriminants are unlike."""
    check_form(one)
    check_form(other)
    if discriminant_of(one) != discriminant_of(other):
        raise OtherForms()


def form_value(form, x, y):
    """The value of a form at two integers."""
    a, b, c = form
    return a * x * x + b * x * y + c * y * y


def led_form(form, change):
    """The form to which a whole change leads a positive form."""
    check_form(form)
    if not is_whole_change(change):
        raise BadChange(change)
    a, b, c = form
    p, q, r, s = change
    middle = 2 * a * p * q + b * (p * s + q * r) + 2 * c * r * s
    return (form_value(form, p, r), middle, form_value(form, q, s))


def reducing_step(form):
    """The next whole change on the way from a form that is not reduced to its class."""
    a, b, _ = form
    shift = (a - b) // (2 * a)
    # A shift brings b between -a and a; if b is there already, a is too great, or b has the wrong sign.
    return (1, shift, 0, 1) if shift != 0 else (0, -1, 1, 0)


def reduction(form):
    """The class of a positive form, and a whole change that leads the form to it."""
    check_form(form)
    change = STAY
    while not is_reduced(form):
        step = reducing_step(form)
        form = led_form(form, step)
        change = two_product(change, step)
    return (form, change)


def class_of(form):
    """The class of a positive form."""
    return reduction(form)[0]


def reducing(form):
    """A whole change that leads a positive form to its class."""
    return reduction(form)[1]


def first_form(discriminant):
    """The first class of a discriminant."""
    if discriminant % 2 == 0:
        return (1, 0, -discriminant // 4)
    return (1, 1, (1 - discriminant) // 4)


def form_classes(discriminant):
    """The ascending tuple of all classes of a discriminant."""
    found = []
    a = 1
    # A reduced form has b b <= a a <= a c, so the discriminant is at most -3 a a.
    while 3 * a * a <= -discriminant:
        for b in range(1 - a, a + 1):
            form = (a, b, (b * b - discriminant) // (4 * a))
            if discriminant_of(form) == discriminant and is_positive(form) and is_reduced(form):
                found.append(form)
        a += 1
    return tuple(found)


def part_prime_to(number, other):
    """The greatest divisor of an integer above 0 that has no divisor above 1 in common with another one."""
    common = gcd(number, other)
    while common > 1:
        number //= common
        common = gcd(number, other)
    return number


def change_to_prime(form, number):
    """A whole change that leads a positive form to one whose first integer is prime to an integer above 0."""
    a, _, c = form
    # Each prime divisor of the number divides just one of x, y and the rest of the number.
    # If it divides y, it does not divide a; if x, it does not divide c; if none, it divides a and c, but not b.
    y = part_prime_to(number, a)
    x = part_prime_to(number // y, c)
    u, v = bezout(x, y)
    return (x, -v, y, u)


def united(one, other):
    """Two whole changes that lead two positive forms of one discriminant to united forms."""
    check_two_forms(one, other)
    first = change_to_prime(other, one[0])
    a, b, _ = one
    d, e, _ = led_form(other, first)
    # Both forms are shifted to one middle integer, by the Chinese remainder theorem.
    inverse, _ = bezout(a, d)
    shift = inverse * ((e - b) // 2) % d
    other_shift = (b + 2 * a * shift - e) // (2 * d)
    return ((1, shift, 0, 1), two_product(first, (1, other_shift, 0, 1)))


def united_forms(one, other):
    """Two united forms that are equivalent to two positive forms of one discriminant."""
    one_change, other_change = united(one, other)
    return (led_form(one, one_change), led_form(other, other_change))


def product_class(one, other):
    """The product of the classes of two positive forms of one discriminant."""
    first, second = united_forms(one, other)
    a, b, _ = first
    d, _, rest = second
    return class_of((a * d, b, rest // a))


def inverse_class(form):
    """The inverse of the class of a positive form."""
    a, b, c = form
    return class_of((a, -b, c))


def change_leading(one, other):
    """A whole change that leads a positive form to an equivalent one."""
    return two_product(reducing(one), two_adjoint(reducing(other)))


def turns_of(form):
    """The whole changes that lead a positive form to itself, one of each two that differ by the sign."""
    first = class_of(form)
    if first == (1, 0, 1):
        turns = (STAY, (0, -1, 1, 0))
    elif first == (1, 1, 1):
        turns = (STAY, (0, -1, 1, 1), (-1, -1, 1, 0))
    else:
        turns = (STAY,)
    change = reducing(form)
    back = two_adjoint(change)
    return tuple(two_product(two_product(change, turn), back) for turn in turns)
