"""Integers as words of digits, also those with more digits than Python's own str and int take."""

from rulertrees.words import DIGITS


def written_integer(number):
    """An integer as Python writes it."""
    rest = abs(number)
    parts = []
    while rest >= 10 ** 60:
        rest, part = divmod(rest, 10 ** 60)
        parts.append(str(part).zfill(60))
    parts.append(str(rest))
    sign = "-" if number < 0 else ""
    return sign + "".join(parts[::-1])


def is_written_integer(word):
    """Whether a string is an integer as Python writes it."""
    digits = word.removeprefix("-")
    if not digits or not all(digit in DIGITS for digit in digits):
        return False
    return digits[0] != "0" or word == "0"


def integer_of(word):
    """The integer of a string that is one as Python writes it, None if it is none."""
    if not is_written_integer(word):
        return None
    digits = word.removeprefix("-")
    first = len(digits) % 60
    number = int("0" + digits[:first])
    for start in range(first, len(digits), 60):
        number = number * 10 ** 60 + int(digits[start:start + 60])
    return -number if word[0] == "-" else number
