"""[7.1] words, [7.2] texts, [7.3] quotients, [7.4] relations of texts, [7.5] truth, [7.6] written relations."""

import ast
import itertools
import random
import re
import time
import unittest
from fractions import Fraction
from math import gcd
from rulertrees.errors import (
    AlwaysTrue, BadNames, BadPlaces, BadRelation, BadText, ByZero, FarPart, NeverTrue, TooHigh, TooManyNames)
from tests import naive
from tests.helpers import Case, ODD_VALUES, exact

NO_STRINGS = [thing for thing in ODD_VALUES if not isinstance(thing, str)]
SUM = r"-*[ni](?:[-+*/]-*[ni])*"
ENDS = [first + ")" * depth + last for first in ("", "i", ":i=i", "n:i=i") for depth in range(5) for last in ("", "=i")]


def is_text(kinds):
    """Whether a row of kinds of words (n for a name, i for an integer) is a text: sums in brackets become factors."""
    kinds = re.sub("^n+:", "", kinds)
    while True:
        fewer = re.sub(r"\(" + SUM + r"\)", "i", kinds)
        if fewer == kinds:
            return re.fullmatch(SUM + "=" + SUM, kinds) is not None
        kinds = fewer


def kind_of(word):
    if re.fullmatch("[a-z]{1,8}", word):
        return "n"
    if re.fullmatch("0|[1-9][0-9]{0,8}", word):
        return "i"
    return word if re.fullmatch(r"[-+*/()=:]", word) else "?"


def wrong_at(text):
    """The index of the first word with which no text goes on; the length if the text ends early; None for a text."""
    words = list(re.finditer("[a-z]+|[0-9]+|[^ ]", text))
    kinds = "".join(kind_of(word.group()) for word in words)
    if is_text(kinds):
        return None
    for at, word in enumerate(words):
        if not any(is_text(kinds[:at + 1] + end) for end in ENDS):
            return word.start()
    return len(text)


def plus(one, other, sign=1):
    found = dict(one)
    for key, number in other.items():
        found[key] = found.get(key, 0) + sign * number
    return {key: number for key, number in found.items() if number}


def by(one, other):
    found = {}
    for (first, a), (second, b) in itertools.product(one.items(), other.items()):
        found = plus(found, {tuple(x + y for x, y in zip(first, second)): a * b})
    return found


def trim(pair):
    top, bottom = pair
    unit = (0,) * len(next(iter(bottom)))
    if not top:
        return {}, {unit: 1}
    common = gcd(*top.values(), *bottom.values())
    if bottom[sorted(bottom)[-1]] < 0:
        common = -common
    while True:
        whole = [k for k in range(len(unit)) if all(key[k] > 0 for key in [*top, *bottom])]
        if not whole:
            return tuple({key: number // common for key, number in side.items()} for side in (top, bottom))
        less = [1 if k in whole else 0 for k in range(len(unit))]
        top, bottom = [{tuple(x - y for x, y in zip(key, less)): number for key, number in side.items()}
                       for side in (top, bottom)]


class Naive:
    """The pair of a text straight from the rules, over what Python makes of the equation."""

    def __init__(self, text):
        words = text.split(":")[-1]
        self.heading = tuple(text.split(":")[0].split()) if ":" in text else None
        self.names = tuple(dict.fromkeys(re.findall("[a-z]+", words)))
        self.zeros = []
        # Each name becomes a word that Python does not know; all words keep their places.
        left, right = words.split("=")
        self.first = self.start(left, len(text) - len(words))
        self.second = self.start(right, len(text) - len(right))

    def start(self, side, offset):
        spread = re.sub("[a-z]+", lambda word: word.group().upper(), side)
        spread = re.sub("([0-9])([A-Z])", r"\1 \2", spread)
        self.side, self.offset = side, offset
        blanks = len(spread) - len(spread.lstrip())
        return self.pair(ast.parse(spread.strip(), mode="eval").body, offset + blanks, spread.strip())

    def pair(self, node, offset, text):
        unit = (0,) * len(self.names)
        if isinstance(node, ast.Constant):
            return trim(({unit: node.value} if node.value else {}, {unit: 1}))
        if isinstance(node, ast.Name):
            key = tuple(int(name == node.id.lower()) for name in self.names)
            return {key: 1}, {unit: 1}
        if isinstance(node, ast.UnaryOp):
            inner = self.pair(node.operand, offset, text)
            return inner and trim(({key: -number for key, number in inner[0].items()}, inner[1]))
        one, other = self.pair(node.left, offset, text), self.pair(node.right, offset, text)
        return self.join(node, one, other, offset, text)

    def join(self, node, one, other, offset, text):
        if isinstance(node.op, ast.Div) and other is not None and not other[0]:
            # The sign stands behind the left side and its brackets.
            at = node.left.end_col_offset
            while text[at] != "/":
                at += 1
            self.zeros.append(offset + at)
            return None
        if one is None or other is None:
            return None
        if isinstance(node.op, ast.Mult):
            return trim((by(one[0], other[0]), by(one[1], other[1])))
        if isinstance(node.op, ast.Div):
            return trim((by(one[0], other[1]), by(one[1], other[0])))
        return self.total(one, other, 1 if isinstance(node.op, ast.Add) else -1)

    def total(self, one, other, sign):
        if one[1] == other[1]:
            return trim((plus(one[0], other[0], sign), one[1]))
        return trim((plus(by(one[0], other[1]), by(other[0], one[1]), sign), by(one[1], other[1])))

    def told(self):
        """The relation and its names, or the error and its attributes."""
        if self.zeros:
            return ByZero, {"at": min(self.zeros)}
        top = self.total(self.first, self.second, -1)[0]
        if not top:
            return AlwaysTrue, {}
        highest = {name: max(key[at] for key in top) for at, name in enumerate(self.names)}
        standing = [name for name in self.names if highest[name]]
        if not standing:
            return NeverTrue, {}
        high = [name for name in self.names if highest[name] > 1]
        if high:
            return TooHigh, {"name": high[0]}
        if len(standing) > 6:
            return TooManyNames, {}
        order = self.heading if self.heading is not None else tuple(standing)
        if sorted(order) != sorted(standing):
            return BadNames, {"thing": order}
        items = []
        for bits in naive.bits_of(len(order)):
            kept = [name for name, bit in zip(order, bits) if bit == 0]
            items.append(top.get(tuple(int(name in kept) for name in self.names), 0))
        return naive.short(tuple(items)), order


def random_sum(chance, leaves, names, depth):
    """A random sum of so many integers and names at most."""
    if leaves <= 1 or depth == 0:
        leaf = chance.choice(names + ["0", "1", "2", "30"])
        return chance.choice(["", "", "", "-", "--", " - "]) + leaf
    left = chance.randrange(1, leaves)
    one, other = random_sum(chance, left, names, depth - 1), random_sum(chance, leaves - left, names, depth - 1)
    sign = chance.choice(["+", "-", "*", "/"])
    one, other = [side if chance.random() < 0.4 else "(" + side + ")" for side in (one, other)]
    blank = chance.choice(["", " ", "  "])
    return one + blank + sign + blank + other


def random_text(chance):
    names = chance.sample(["x", "y", "z", "if", "abcdefgh", "a", "b", "c"], chance.randrange(1, 8))
    leaves = chance.randrange(2, 12)
    left = chance.randrange(1, leaves)
    text = random_sum(chance, left, names, 5) + chance.choice(["=", " = "]) + random_sum(chance, leaves - left, names, 5)
    if chance.random() < 0.2:
        text = " ".join(chance.sample(names, chance.randrange(1, len(names) + 1))) + ":" + text
    return text


class WordsTest(Case):

    def wrong(self, at, text):
        self.assertEqual(wrong_at(text), at, text)
        for name in ("names_in", "read_relation"):
            self.fails(BadText, {"at": at}, name, text)
        self.fails(BadText, {"at": at}, "truth_of", text, None)

    def test_no_words(self):
        for text, at in (("x = 007", 4), ("x = 00", 4), ("x = 1234567890", 4), ("abcdefghi = 1", 0), ("X = 1", 0),
                         ("x = aB", 5), ("x = y_1", 5), ("x\n= 1", 1), ("x = 1.5", 5), ("x = 2;", 5), ("x=\t1", 2),
                         ("~", 0), ("x y abcdefghi: x = y", 4), ("x y: x = y000", 10), ("x == y", 3), ("x ** y = 1", 3)):
            self.wrong(at, text)
        self.gives(("x",), "names_in", "x = 123456789")
        self.gives(("x", "abcdefgh"), "names_in", "x = abcdefgh")
        self.gives(((1, 0), ("x",)), "read_relation", "x = 0")

    def test_words_side_by_side(self):
        self.wrong(5, "x = 2y")
        self.wrong(1, "2x = y")
        self.wrong(5, "x = y2")
        self.wrong(5, "x = 0x")
        self.wrong(6, "x = 2 2")
        self.wrong(4, "x = abcdefghijkl")
        self.wrong(4, "x y = 1")
        self.gives(("x", "y"), "names_in", "x:x=y")
        self.gives(("xy", "z"), "names_in", "  xy  =  z  ")

    def test_wrong_texts(self):
        for text in ("", " ", "   ", "x", "x ", "x y", "x y z ", "x:", "x y:", "=", "x =", "x = ", "= x", ":", ": x = 1",
                     "x: : x = 1", "x: y: x = y", "x + = 1", "x = 1 +", "x = (1", "(x = 1", "x) = 1", "x = 1)", "()=1",
                     "(x) y = 1", "x (y) = 1", "x = y = z", "+x = 1", "x = +1", "x * -y = 1 -", "x: (y = 1)", "2: x = 1",
                     "x 2: x = 1", "-x: x = 1", "x, y: x = y", "x = 1:", "x = y z", "x y z = 1", "x / / y = 1", "x*/y=1",
                     "((x) = 1", "x = ((1)", "--", "x = -", "x: -", "x: x", "(", ")", "-(", "x = ()", "x : = 1"):
            at = wrong_at(text)
            self.assertIsNotNone(at, text)
            self.wrong(at, text)
        self.wrong(0, "")
        self.wrong(3, "   ")
        self.wrong(2, "x ")
        self.wrong(5, "x y z")
        self.wrong(6, "(x) = ")
        self.wrong(2, "x:")

    def test_all_short_rows_of_words(self):
        signs = ("x", "7", "+", "-", "*", "/", "(", ")", "=", ":", "00")
        for many in range(5):
            for at, words in enumerate(itertools.product(signs, repeat=many)):
                if many < 4 or at % 9 == 0:
                    self.compare(" ".join(words))

    def test_random_rows_of_words(self):
        chance = random.Random(1)
        for _ in range(1500):
            words = [chance.choice(["x", "y", "7", "+", "-", "*", "/", "(", ")", "=", "=", ":", "?"])
                     for _ in range(chance.randrange(4, 9))]
            self.compare(chance.choice(["", " ", "  "]).join(words))

    def test_texts_with_one_sign_otherwise(self):
        for text in ("x y: -(x - 1) * 2 = y / (x + 3)", "1 / a + 1 / b = 1 / f", "((x)) = -(-(y))"):
            self.assertIsNone(wrong_at(text))
            for at in range(len(text)):
                for sign in ("", "x", "1", "+", "-", "(", ")", "=", ":", " ", "X"):
                    self.compare(text[:at] + sign + text[at + 1:])
                self.compare(text[:at])

    def compare(self, text):
        at = wrong_at(text)
        if at is not None:
            self.fails(BadText, {"at": at}, "names_in", text)
        else:
            self.gives(Naive(text).names, "names_in", text)

    def test_no_strings(self):
        for thing in NO_STRINGS:
            for name in ("names_in", "read_relation"):
                self.fails(BadText, {"at": -1}, name, thing)
            self.fails(BadText, {"at": -1}, "truth_of", thing, ())
            self.fails(BadText, {"at": -1}, "truth_of", thing, None)

    def test_long_strings(self):
        for sign in "(-":
            self.fails(BadText, {"at": 2000}, "names_in", sign * 2000)
        self.fails(BadText, {"at": 1}, "names_in", "x" + ")" * 1999)
        self.fails(BadText, {"at": 0}, "names_in", "x" * 2000)
        self.fails(BadText, {"at": 0}, "names_in", "1" * 2000)
        self.fails(BadText, {"at": 2000}, "names_in", " " * 2000)
        self.fails(BadText, {"at": 2000}, "read_relation", "(" * 999 + "x" + ")" * 999 + "+")
        self.fails(BadText, {"at": 1999}, "read_relation", "(" * 999 + "x" + ")" * 999 + ")")
        self.fails(BadText, {"at": 2000}, "read_relation", "x " * 1000)

    def test_names_in(self):
        self.gives(("a", "b", "f"), "names_in", "1 / a + 1 / b = 1 / f")
        self.gives(("z", "a"), "names_in", "a b c z: z + a - a = z * 0")
        self.gives((), "names_in", "x y: 1 = 2")
        self.gives(("x",), "names_in", "1 / (x - x) = 0")
        self.gives(("name", "negative", "none"), "names_in", "name / negative = -none")


class RelationsOfTextsTest(Case):

    def compare(self, text):
        expected = Naive(text).told()
        if isinstance(expected[0], type):
            self.fails(expected[0], expected[1], "read_relation", text)
        else:
            self.gives(expected, "read_relation", text)
        return expected

    def test_examples(self):
        self.gives(((0, 1, 0, 0, 0, 0, 2, -3), ("x", "y", "z")), "read_relation", "x * y + 2 * z = 3")
        self.gives(((0, 1, -1, 0, -1, 0, 0, 0), ("a", "b", "f")), "read_relation", "1 / a + 1 / b = 1 / f")
        self.gives(((0, 1, 1, 0, -1, 0, 0, 0), ("f", "a", "b")), "read_relation", "f a b: 1 / a + 1 / b = 1 / f")
        self.gives(((0, 0, 0, 0, 0, 0, 0, 1, 0, 0, -1, 0, 0, 1, 0, 0), ("a", "b", "c", "d")),
                   "read_relation", "a / b + c / b = d")
        self.gives(((1, -2), ("y",)), "read_relation", "x * y / x = 2")
        self.gives(((0, 2, 1, -1), ("x", "y")), "read_relation", "-(x - 1) = y + x")
        self.fails(BadText, {"at": 5}, "read_relation", "x = 2y")
        self.fails(ByZero, {"at": 2}, "read_relation", "1 / (x - x) = y")
        self.fails(TooHigh, {"name": "x"}, "read_relation", "x * x = y")
        self.fails(NeverTrue, {}, "read_relation", "1 / x = 0")

    def test_how_signs_bind(self):
        # x - y - z and x / y / z from the left, products ahead of sums, the sign of a factor ahead of all.
        self.gives(((0, 0, 0, 1, 0, -1, -1, -1), ("x", "y", "z")), "read_relation", "x - y - z = 1")
        self.gives(((0, 0, 0, 1, -1, 0, 0, 0), ("x", "y", "z")), "read_relation", "x / y / z = 1")
        self.gives(((0, 0, 0, 1, 1, 0, 0, -1), ("x", "y", "z")), "read_relation", "x + y * z = 1")
        self.gives(((1, 0, 0, 2), ("x", "y")), "read_relation", "-x * y = 2")
        self.gives(((0, 0, 0, 3, 0, -1, -1, 0), ("x", "z", "y")), "read_relation", "-(-x - -z) = y - 2 * x")
        self.gives(((0, 1, 1, -3), ("x", "y")), "read_relation", "--x --y = 3")
        self.gives(((1, 0, 0, -6), ("x", "y")), "read_relation", "x / 2 * y = 3")
        self.gives(((0, 1, -6, 0), ("x", "y")), "read_relation", "x / (2 * y) = 3")

    def test_trimming(self):
        # Integers and names are taken out, other factors stay, and equal bottoms are kept.
        self.gives(((0, 1, -1, 0), ("x", "y")), "read_relation", "2 * x / 4 = y / 2")
        self.gives(((0, 0, 1, -1, 1, -1, 0, 0), ("a", "b", "c")), "read_relation", "(a + b) / (a + b) = c")
        self.gives(((1, 0), ("y",)), "read_relation", "1 / x = 1 / x + y")
        self.gives(((0, 1, 1, 0), ("x", "y")), "read_relation", "x / z + y / z = 0 / z")
        self.fails(TooHigh, {"name": "x"}, "read_relation", "x / (x + 1) = (x + 2) / (x + 3) + x")
        self.gives(((1, -5), ("x",)), "read_relation", "x * x * x / x / x = 5")
        self.gives(((1, -5), ("x",)), "read_relation", "x * (y * z) / (z * y) = 5")
        self.fails(TooHigh, {"name": "a"}, "read_relation", "(a + b) / (a + b) * (a + b) / (a + b) = c")
        # Both pairs have the bottom x - 1 only if the sign of the bottom is taken out.
        self.gives(((0, 1, 1, 0), ("y", "x")), "read_relation", "y / (x - 1) + x / (x - 1) = 0")
        # So do two pairs have the bottom x + y only if integers are taken out, and if names are.
        self.gives(((0, 1, 1, 0), ("a", "b")), "read_relation", "2 * a / (2 * x + 2 * y) + b / (x + y) = 0")
        self.gives(((0, 1, -1, 0), ("a", "b")), "read_relation", "a / (x - y) + b / (y - x) = 0")
        self.gives(((0, 1, 1, 0), ("a", "b")), "read_relation", "a * x / (x * x + x * y) + b / (x + y) = 0")
        self.gives(((0, 1, 0, 0, 0, 0, 1, 0), ("x", "y", "a")), "read_relation", "x * y / 6 + a / 6 = 0")
        self.fails(TooHigh, {"name": "x"}, "read_relation", "a / (x + y) + b / (x + y) / (x + y) * (x + 1) = x")
        self.compare("1 / (1 - x) + y / (x - 1) = z / (-x + 1)")
        self.compare("1 / (y - x) = 2 / (x - y) + z")
        self.compare("1 / (2 - 2 * x * y) = 1 / (3 * x * y - 3) + z")

    def test_names_that_fall_out(self):
        self.gives(((1, -2), ("y",)), "read_relation", "x - x + y = 2")
        self.gives(((1, -2), ("y",)), "read_relation", "y: 0 * x + y = 2")
        self.fails(BadNames, {"thing": ("x", "y")}, "read_relation", "x y: 0 * x + y = 2")
        self.gives(((0, 1, -1, 0), ("b", "h")), "read_relation",
                   "a + b + c + d + e + f + g = a + h + c + d + e + f + g")

    def test_headings(self):
        expected = {"x": 1, "y": 2, "z": 4}
        for order in itertools.permutations("xyz"):
            relation, names = self.call("read_relation", " ".join(order) + ": x + 2 * y + 4 * z = 8")
            self.assertEqual(names, order)
            kept = [relation[7 - (4 >> at)] for at in range(3)]
            self.assertEqual(kept, [expected[name] for name in order])
        for heading in (("x", "y"), ("x", "y", "z", "x"), ("x", "x", "y"), ("x", "y", "w"), ("w", "x", "y", "z")):
            text = " ".join(heading) + ": x + y = z"
            self.fails(BadNames, {"thing": heading}, "read_relation", text)
        self.fails(BadNames, {"thing": ("x", "y", "z", "x")}, "read_relation", "x y  z x:x+y=z")

    def test_by_zero(self):
        for text, at in (("1/0=x", 1), ("x = 1 / 0", 6), ("1/0/(1/0)=x", 1), ("1/(1/0)=x", 4), ("1/(0*(1/0))=x", 7),
                         ("1/(x-x) + 1/0 = 2", 1), ("(1/(0/x)) = 1", 2), ("1/(1/0+0) + 1/(y-y)=x", 4),
                         ("0/(2-2) = 1", 1), ("x / (x * (y - y)) = x * x", 2), ("x = 1/(1/(1/(1-1)))", 11),
                         ("a b: 1 / 0 = 1", 7), ("x*x = 1/(2*x - x - x)", 7), ("0 = 0/0", 5), ("1/(3/(x-x))/0=1", 4)):
            self.fails(ByZero, {"at": at}, "read_relation", text)
            self.assertEqual(self.compare(text), (ByZero, {"at": at}))

    def test_the_order_of_errors(self):
        self.fails(BadText, {"at": 8}, "read_relation", "1/0 = x y")
        self.fails(ByZero, {"at": 5}, "read_relation", "q: 1 / 0 = 1 / 0")
        self.fails(ByZero, {"at": 1}, "read_relation", "1/0 = x * x")
        for text in ("x = x", "q: 1 = 1", "x + y = y + x", "x / x = 1", "0 = 0 / x", "q: x * x = x * x"):
            self.fails(AlwaysTrue, {}, "read_relation", text)
        for text in ("1 = 2", "q: 1 = 2", "x = x + 1", "1 / x = 0", "x * y / (y * x) = 2", "x: x / x = 2"):
            self.fails(NeverTrue, {}, "read_relation", text)
        many = "a + b + c + d + e + f + g = 0"
        self.fails(TooManyNames, {}, "read_relation", many)
        self.fails(TooManyNames, {}, "read_relation", "a: " + many)
        self.fails(TooHigh, {"name": "g"}, "read_relation", "a + b + c + d + e + f + g * g = 0")
        self.fails(TooHigh, {"name": "y"}, "read_relation", "q: x + y * y = z * z")
        self.fails(TooHigh, {"name": "z"}, "read_relation", "y * 0 + x + z * z = w * w")
        self.fails(TooHigh, {"name": "a"}, "read_relation", "a * a * b * b = 1")
        self.assertEqual(len(self.call("read_relation", "a + b + c + d + e + f = 0")[0]), 64)

    def test_random_texts(self):
        chance = random.Random(2)
        found = {}
        for _ in range(2500):
            kind = self.compare(random_text(chance))[0]
            found[kind if isinstance(kind, type) else "relation"] = True
        self.assertEqual(set(found), {"relation", ByZero, AlwaysTrue, NeverTrue, TooHigh, BadNames})

    def test_great_texts(self):
        start = time.process_time()
        text = "-" * 20 + "(" * 20 + "a" + ")" * 20 + " = " + "-(" * 19 + "b" + ")" * 19
        self.gives(((0, 1, 1, 0), ("a", "b")), "read_relation", text)
        self.fails(TooManyNames, {}, "read_relation", (
            "1/(1/(a+1/b)+1/(c+1/d))+1/(1/(e+1/f)+1/(g+1/h))+1/(1/(i+1/j)+1/(k+1/l))=1/(1/(m+1/n)+1/(o+1/p))"))
        self.fails(TooHigh, {"name": "a"}, "read_relation", "*".join(["(a+b)"] * 7) + "=a")
        text = "*".join(["999999999"] * 15) + " = x"
        self.gives(((1, -999999999 ** 15), ("x",)), "read_relation", text)
        text = (" " * 60).join(["x", "+", "y", "=", "z", "-", "7"])
        self.gives(((0, 0, 0, 1, 0, 1, -1, 7), ("x", "y", "z")), "read_relation", text)
        text = "(((a+b)*c+d)*e+f)"
        self.fails(TooHigh, {"name": "a"}, "read_relation", text + " * " + text + " = 1")
        self.assertLess(time.process_time() - start, 10)


class TruthTest(Case):

    def truth(self, text, places):
        names = Naive(text).names
        words = re.sub("([0-9]+)", r"Fraction(\1)", text.split(":")[-1])
        fractions = {"v" + name: Fraction(a, b) for name, (a, b) in zip(names, places)}
        words = re.sub("[a-z]+", lambda word: word.group() if word.group() == "raction" else "v" + word.group(), words)
        left, right = words.split("=")
        try:
            return (eval(left.strip(), {"Fraction": Fraction}, fractions)
                    == eval(right.strip(), {"Fraction": Fraction}, fractions))
        except ZeroDivisionError:
            return None

    def test_examples(self):
        self.gives(True, "truth_of", "a / b = c", ((6, 1), (2, 1), (3, 1)))
        self.gives(False, "truth_of", "a / b = c", ((1, 1), (2, 1), (1, 3)))
        self.gives(None, "truth_of", "a / b = c", ((1, 1), (0, 1), (3, 1)))

    def test_without_meaning(self):
        for text, places in (("1 / (x - x) = y", ((3, 1), (2, 1))), ("0 / 0 = 0", ()), ("1 / (1 / x) = 0", ((0, 1),)),
                             ("y / (x - 2) = y / (x - 2)", ((1, 1), (2, 1))), ("0 * (1 / x) = 0", ((0, 1),)),
                             ("1 / (1 / (1 / x)) = 1 / x", ((0, 1),)), ("x / (2 * y - 1) = 0", ((0, 1), (1, 2)))):
            self.assertIsNone(self.truth(text, places))
            self.gives(None, "truth_of", text, places)

    def test_texts_without_a_relation(self):
        self.gives(True, "truth_of", "1 = 1", ())
        self.gives(False, "truth_of", "1 = 2", ())
        self.gives(True, "truth_of", "x * x = 4", ((-2, 1),))
        self.gives(False, "truth_of", "x * x = 4", ((3, 1),))
        self.gives(True, "truth_of", "q: x = x", ((7, 3),))
        self.gives(True, "truth_of", "a + b + c + d + e + f + g = 0", ((0, 1),) * 7)
        # The heading gives no places.
        self.gives(True, "truth_of", "y x: x = 2 * y", ((2, 1), (1, 1)))

    def test_random_texts_and_their_relations(self):
        chance = random.Random(3)
        found = {True: 0, False: 0, None: 0}
        for _ in range(2500):
            text = random_text(chance)
            names = Naive(text).names
            places = tuple(chance.choice([(0, 1), (1, 1), (2, 1), (-1, 1), (1, 2), (-3, 2)]) for _ in names)
            expected = self.truth(text, places)
            self.gives(expected, "truth_of", text, places)
            found[expected] += 1
            told = Naive(text).told()
            if expected is not None and not isinstance(told[0], type):
                where = dict(zip(names, places))
                self.assertEqual(naive.value(told[0], [where[name] for name in told[1]]) == 0, expected)
        self.assertGreater(min(found.values()), 50)

    def test_great_places(self):
        great = 10 ** 9
        self.gives(True, "truth_of", "x * y = 1", ((great, great - 1), (great - 1, great)))
        self.gives(False, "truth_of", "x * y = 1", ((great, great - 1), (great - 2, great - 3)))

    def test_errors(self):
        text = "x + y = 2"
        for thing in ODD_VALUES + (((1, 1),), ((1, 1),) * 3, [(1, 1), (1, 1)], ((1, 1), (1, 0)), ((1, 0), (1, 1)),
                                   ((1, 1), (2, 2)), ((1, 1), (1, True)), ((1, 1), [1, 1]), ((0, 1), None)):
            self.fails(BadPlaces, {"thing": thing}, "truth_of", text, thing)
            self.fails(BadText, {"at": 10}, "truth_of", text + " x", thing)
        for thing in ODD_VALUES:
            if not exact(thing, ()):
                self.fails(BadPlaces, {"thing": thing}, "truth_of", "1 / 0 = 1", thing)


class WrittenTest(Case):

    def test_examples(self):
        self.gives("x y z: x * y + 2 * z - 3 = 0", "written", (0, 1, 0, 0, 0, 0, 2, -3), ("x", "y", "z"))
        self.gives("a b f: a * b - a * f - b * f = 0", "written", (0, 1, -1, 0, -1, 0, 0, 0), ("a", "b", "f"))
        self.fails(FarPart, {"dial": 0}, "written", (0, 0, 1, 1), ("x", "y"))

    def test_terms(self):
        self.gives("x: x = 0", "written", (1, 0), ("x",))
        self.gives("x: x + 1 = 0", "written", (1, 1), ("x",))
        self.gives("x: 2 * x - 1 = 0", "written", (2, -1), ("x",))
        self.gives("abcdefgh b: 12 * abcdefgh * b - abcdefgh - 7 * b + 1 = 0", "written", (12, -1, -7, 1), ("abcdefgh", "b"))
        self.gives("b a: b + a = 0", "written", (0, 1, 1, 0), ("b", "a"))

    def test_far_parts(self):
        self.fails(FarPart, {"dial": 0}, "written", (0, 1), ("x",))
        self.fails(FarPart, {"dial": 1}, "written", (0, 1, 0, 1), ("x", "y"))
        self.fails(FarPart, {"dial": 0}, "written", (0, 0, 0, 1), ("x", "y"))
        self.fails(FarPart, {"dial": 2}, "written", (0, 1, 0, 0, 0, 0, 0, -3), ("x", "y", "z"))
        self.fails(FarPart, {"dial": 1}, "written", (0, 0, 1, 0, 0, 0, 0, -3), ("x", "y", "z"))

    def test_written_and_read_back(self):
        chance = random.Random(4)
        names = ("q", "abc", "x", "if", "zz", "a")
        for many in range(1, 7):
            for _ in range(40):
                items = [chance.choice((0, 0, 1, -1, 2, -37, 999999999)) for _ in range(1 << many)]
                if not any(items):
                    continue
                relation, own = naive.short(items), tuple(chance.sample(names, many))
                far = [dial for dial in range(many)
                       if not any(item for item, bits in zip(relation, naive.bits_of(many)) if bits[dial] == 0)]
                if far:
                    self.fails(FarPart, {"dial": far[0]}, "written", relation, own)
                    continue
                text = self.call("written", relation, own)
                self.assertEqual(text, self.naive_text(relation, own))
                self.gives((relation, own), "read_relation", text)

    def naive_text(self, relation, names):
        terms = []
        for item, bits in zip(relation, naive.bits_of(len(names))):
            kept = [name for name, bit in zip(names, bits) if not bit]
            if item:
                number = [str(abs(item))] if abs(item) != 1 or not kept else []
                terms.append(("-" if item < 0 else "+") + " " + " * ".join(number + kept))
        return " ".join(names) + ": " + " ".join(terms)[2:] + " = 0"

    def test_great_items(self):
        self.gives("x: 1000000000 * x - 1 = 0", "written", (10 ** 9, -1), ("x",))

    def test_errors(self):
        for thing in ODD_VALUES + ((0, -1, 1, 0), (2, 4), [1, 0], (1, 0, 0)):
            many = len(thing) if isinstance(thing, tuple) else 0
            if many not in (2, 4, 8, 16, 32, 64) or not naive.is_ints(thing, many) or not naive.is_short(thing):
                self.fails(BadRelation, {"thing": thing}, "written", thing, None)
                self.fails(BadRelation, {"thing": thing}, "written", thing, ("x",))
        for thing in ODD_VALUES + (("x", "x"), ("x",), ("x", "y", "z"), ["x", "y"], ("x", "Y"), ("x", "abcdefghi"),
                                   ("x", ""), ("x", "1"), ("x", "y "), ("x", 1), ("x", None), ("x", ("y",)), "xy"):
            for relation in ((0, 1, 1, 0), (0, 0, 1, 1)):
                self.fails(BadNames, {"thing": thing}, "written", relation, thing)


if __name__ == "__main__":
    unittest.main()
