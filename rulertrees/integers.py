"""Squares, square classes and shortened tuples."""

from math import gcd, isqrt
from rulertrees.errors import AllZero


def is_square(number):
    """Whether an integer is m m for an integer m."""
    return number >= 0 and isqrt(number) ** 2 == number


def differ_by_square(one, other):
    """Whether the product of two integers, neither of them 0, is a square."""
    return is_square(one * other)


def square_class(number):
    """The square-free integer that differs by a square from an integer that is not 0."""
    rest = abs(number)
    kept = 1
    divisor = 2
    while divisor ** 3 <= rest:
        while rest % (divisor * divisor) == 0:
            rest //= divisor * divisor
        if rest % divisor == 0:
            rest //= divisor
            kept *= divisor
        divisor += 1
    # No three primes are left in the rest, each would be at least the divisor.
    # So it is square-free unless it is a square, and no larger divisors need to be tried.
    if is_square(rest):
        rest = 1
    return kept * rest if number > 0 else -kept * rest


def common_divisor(numbers):
    """The greatest common divisor of the integers of a tuple, 0 if all of them are 0."""
    common = 0
    for number in numbers:
        common = gcd(common, number)
    return common


def sign_of_first(numbers):
    """The sign of the first integer that is not 0, as 1 or -1; 0 if there is none."""
    for number in numbers:
        if number != 0:
            return 1 if number > 0 else -1
    return 0


def is_short(numbers):
    """Whether a tuple of integers is short."""
    return sign_of_first(numbers) == 1 and common_divisor(numbers) == 1


def shortened(numbers):
    """The shortened tuple of a tuple of integers."""
    sign = sign_of_first(numbers)
    if sign == 0:
        raise AllZero()
    divisor = sign * common_divisor(numbers)
    return tuple(number // divisor for number in numbers)


def bezout(one, other):
    """Two integers (u, v) such that u one + v other is the greatest common divisor of two integers above 0."""
    one_row, other_row = (one, 1, 0), (other, 0, 1)
    while other_row[0] != 0:
        quotient = one_row[0] // other_row[0]
        rest_row = tuple(first - quotient * second for first, second in zip(one_row, other_row))
        one_row, other_row = other_row, rest_row
    return one_row[1], one_row[2]
