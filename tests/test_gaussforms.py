"""[4.1] whole changes, [4.2] positive forms, [4.3] products of classes."""

import itertools
import random
import unittest
from rulertrees.errors import BadChange, BadForm, OtherForms
from tests import naive
from tests.helpers import Case, ODD_VALUES, otherwise_values

STAY = (1, 0, 0, 1)
NO_FORMS = [thing for thing in ODD_VALUES if not naive.is_positive(thing)] + [
    (0, 1, 1), (-1, 1, -6), (2, 2, 2), (1, 2, 1), (1, 3, 1), (1, 0, -1), [1, 0, 1], (1, 0, True), (1, 0, 1, 0)]
NO_WHOLE_CHANGES = [thing for thing in ODD_VALUES if not naive.is_whole_change(thing)] + [
    (1, 0, 0, -1), (2, 0, 0, 2), (0, 1, 1, 0), (2, 1, 1, 2), [1, 0, 0, 1], (True, 0, 0, 1)]
DISCRIMINANTS = [-k for k in range(3, 2001) if -k % 4 in (0, 1)]


def whole_changes(bound):
    span = range(-bound, bound + 1)
    return [change for change in itertools.product(span, repeat=4) if naive.is_whole_change(change)]


def naive_classes(number):
    """All reduced forms, by trying each c."""
    found = []
    for b in range(-30, 31):
        for a in range(1, 30):
            if (b * b - number) % (4 * a) == 0:
                form = (a, b, (b * b - number) // (4 * a))
                if naive.is_positive(form) and naive.is_reduced(form):
                    found.append(form)
    return tuple(sorted(found))


def random_change(chance, size):
    change = STAY
    for _ in range(size):
        k = chance.randrange(-9, 10)
        step = chance.choice(((1, k, 0, 1), (1, 0, k, 1), (0, -1, 1, 0)))
        change = product(change, step)
    return change


def product(one, other):
    return tuple(one[2 * i] * other[j] + one[2 * i + 1] * other[2 + j] for i in (0, 1) for j in (0, 1))


def great_forms(seed, many):
    """Positive forms with integers up to 10 ** 12."""
    chance = random.Random(seed)
    found = []
    while len(found) < many:
        size = 10 ** chance.randrange(1, 13)
        form = tuple(chance.randrange(-size, size + 1) for _ in range(3))
        form = (abs(form[0]), form[1], abs(form[2]))
        if naive.is_positive(form):
            found.append(form)
    return found


class KindsTest(Case):

    def test_is_positive(self):
        for form in itertools.product(range(-3, 8), range(-5, 6), range(-2, 8)):
            self.gives(naive.is_positive(form), "is_positive", form)
        for thing in ODD_VALUES:
            self.gives(naive.is_positive(thing), "is_positive", thing)
        for thing in NO_FORMS:
            self.gives(False, "is_positive", thing)
        for thing in otherwise_values((2, 1, 3)):
            self.gives(naive.is_positive(thing), "is_positive", thing)
        self.gives(True, "is_positive", (10 ** 12, 1, 10 ** 12))
        self.gives(False, "is_positive", (True, 0, 1))

    def test_is_whole_change(self):
        for change in itertools.product(range(-2, 3), repeat=4):
            self.gives(naive.is_whole_change(change), "is_whole_change", change)
        for thing in ODD_VALUES + tuple(NO_WHOLE_CHANGES):
            self.gives(naive.is_whole_change(thing), "is_whole_change", thing)
        for thing in otherwise_values((2, 1, 1, 1)):
            self.gives(naive.is_whole_change(thing), "is_whole_change", thing)


class LedFormTest(Case):

    def test_led_forms(self):
        for form in ((2, 1, 3), (1, 0, 1), (1, 1, 1), (5, -7, 11)) + tuple(great_forms(1, 20)):
            for change in whole_changes(2):
                found = self.call("led_form", form, change)
                self.assertEqual(found, naive.led_form(form, change))
                self.gives(True, "is_positive", found)
        self.gives((3, -1, 2), "led_form", (2, 1, 3), (0, -1, 1, 0))
        self.gives((2, 5, 6), "led_form", (2, 1, 3), (1, 1, 0, 1))

    def test_errors(self):
        for thing in NO_FORMS:
            self.fails(BadForm, {"thing": thing}, "led_form", thing, STAY)
            self.fails(BadForm, {"thing": thing}, "led_form", thing, None)
        for thing in NO_WHOLE_CHANGES:
            self.fails(BadChange, {"thing": thing}, "led_form", (2, 1, 3), thing)


class ClassesTest(Case):

    def check(self, form, expected=None):
        found = self.call("class_of", form)
        change = self.call("reducing", form)
        self.assertTrue(naive.is_reduced(found))
        self.assertTrue(naive.is_whole_change(change))
        self.assertEqual(naive.led_form(form, change), found)
        if expected is not None:
            self.assertEqual(found, expected)

    def test_small_forms(self):
        changes = whole_changes(3)
        for number in (-3, -4, -7, -8, -20, -23, -56, -84):
            for form in naive_classes(number):
                for change in changes:
                    self.check(naive.led_form(form, change), form)

    def test_great_forms(self):
        chance = random.Random(2)
        for form in great_forms(3, 200):
            self.check(form)
            self.check(naive.led_form(form, random_change(chance, 20)), self.call("class_of", form))

    def test_edges_of_reduced_forms(self):
        for form in ((1, 1, 1), (1, 0, 1), (2, 2, 3), (3, 2, 3), (2, 1, 2), (2, -1, 3)):
            self.gives(form, "class_of", form)
        self.gives((3, 2, 3), "class_of", (3, -2, 3))
        self.gives((2, 2, 3), "class_of", (2, -2, 3))
        self.gives((1, 1, 6), "class_of", (6, -1, 1))

    def test_first_form(self):
        for number in DISCRIMINANTS:
            form = (1, 0, -number // 4) if number % 4 == 0 else (1, 1, (1 - number) // 4)
            self.gives(form, "first_form", number)
            self.assertEqual(naive.discriminant(form), number)

    def test_form_classes(self):
        for number in DISCRIMINANTS[::-7] + DISCRIMINANTS[:60]:
            found = self.call("form_classes", number)
            self.assertEqual(found, naive_classes(number))
            self.assertEqual(found[0], self.call("first_form", number))
        for number, many in ((-3, 1), (-4, 1), (-23, 3), (-47, 5), (-163, 1), (-1999, 27), (-2000, 20), (-84, 4)):
            self.assertEqual(len(self.call("form_classes", number)), many)
        self.gives(((1, 1, 6), (2, -1, 3), (2, 1, 3)), "form_classes", -23)
        # (2, 0, 2), (2, 2, 2) and (4, 4, 4) are divided by an integer above 1.
        self.gives(((1, 0, 4),), "form_classes", -16)
        self.gives(((1, 0, 3),), "form_classes", -12)
        self.gives(((1, 0, 12), (3, 0, 4)), "form_classes", -48)

    def test_errors(self):
        for thing in NO_FORMS:
            self.fails(BadForm, {"thing": thing}, "class_of", thing)
            self.fails(BadForm, {"thing": thing}, "reducing", thing)


class ProductsTest(Case):

    def check_united(self, one, other):
        changes = self.call("united", one, other)
        self.assertTrue(type(changes) is tuple and len(changes) == 2)
        self.assertTrue(all(naive.is_whole_change(change) for change in changes))
        self.assertTrue(all(len(str(abs(number))) <= 4000 for change in changes for number in change))
        (a, b, rest), (d, e, other_rest) = [naive.led_form(*pair) for pair in zip((one, other), changes)]
        self.assertEqual(b, e)
        self.assertEqual(rest % d, 0)
        c = rest // d
        self.assertGreater(c, 0)
        self.assertEqual(other_rest, a * c)
        self.gives(self.call("class_of", (a * d, b, c)), "product_class", one, other)

    def test_united(self):
        for number in (-3, -4, -20, -23, -47, -56, -84, -231, -1999, -2000):
            classes = naive_classes(number)[:9]
            for one, other in itertools.product(classes, repeat=2):
                self.check_united(one, other)

    def test_united_with_common_divisors(self):
        chance = random.Random(4)
        self.check_united((6, 1, 6), (6, 1, 6))
        self.check_united((6, 1, 6), (12, 1, 3))
        self.check_united((30, 1, 30), (60, 1, 15))
        self.check_united((210, 1, 210), (210, -1, 210))
        for number in (-143, -959, -1151, -1559):
            classes = naive_classes(number)
            for _ in range(40):
                one, other = chance.choice(classes), chance.choice(classes)
                one, other = [naive.led_form(form, random_change(chance, 4)) for form in (one, other)]
                self.check_united(one, other)

    def test_united_great_forms(self):
        chance = random.Random(5)
        for form in great_forms(6, 60):
            self.check_united(form, form)
            self.check_united(form, (form[0], -form[1], form[2]))
            self.check_united(form, naive.led_form(form, random_change(chance, 6)))
        # Each prime up to 31 divides the first integers, and some divide the last ones.
        many = 200560490130
        self.check_united((many, 1, many), (many, 1, many))
        self.check_united((many, 1, 6 * 10 ** 11 + 1), (many, -1, 6 * 10 ** 11 + 1))

    def naive_product(self, one, other, changes):
        """The class by the words of the document, from any two united forms that small changes lead to."""
        firsts = {}
        for change in changes:
            a, b, rest = naive.led_form(one, change)
            firsts.setdefault(b, []).append((a, rest))
        for change in changes:
            d, b, rest = naive.led_form(other, change)
            for a, other_rest in firsts.get(b, ()):
                if other_rest % d == 0 and other_rest // d * a == rest:
                    return self.call("class_of", (a * d, b, other_rest // d))
        return None

    def test_products_by_the_words_of_the_document(self):
        changes = whole_changes(4)
        compared = 0
        for number in (-15, -20, -23, -31, -47, -56, -71, -84, -95):
            classes = naive_classes(number)
            for one, other in itertools.product(classes, repeat=2):
                expected = self.naive_product(one, other, changes)
                if expected is not None:
                    compared += 1
                    self.gives(expected, "product_class", one, other)
        self.assertGreater(compared, 150)

    def test_the_classes_are_a_group(self):
        for number in (-23, -47, -56, -84, -95, -231, -420, -1155):
            classes = naive_classes(number)
            table = {pair: self.call("product_class", *pair) for pair in itertools.product(classes, repeat=2)}
            first = self.call("first_form", number)
            for one in classes:
                self.assertEqual(table[one, first], one)
                inverse = self.call("class_of", (one[0], -one[1], one[2]))
                self.assertEqual(table[one, inverse], first)
                self.assertEqual(sorted(table[one, other] for other in classes), list(classes))
            for one, other, third in itertools.product(classes, repeat=3):
                self.assertEqual(table[one, other], table[other, one])
                self.assertEqual(table[table[one, other], third], table[one, table[other, third]])

    def test_known_products(self):
        self.gives((2, -1, 3), "product_class", (2, 1, 3), (2, 1, 3))
        self.gives((1, 1, 6), "product_class", (2, 1, 3), (3, 1, 2))
        self.gives((3, -1, 4), "product_class", (2, 1, 6), (2, 1, 6))
        self.gives((1, 0, 14), "product_class", (2, 0, 7), (2, 0, 7))
        self.gives((2, 0, 7), "product_class", (3, 2, 5), (3, 2, 5))

    def test_the_product_depends_on_the_classes_alone(self):
        chance = random.Random(7)
        for number in (-23, -47, -71, -231):
            classes = naive_classes(number)
            for one, other in itertools.product(classes, repeat=2):
                expected = self.call("product_class", one, other)
                one, other = [naive.led_form(form, random_change(chance, 5)) for form in (one, other)]
                self.gives(expected, "product_class", one, other)

    def test_errors(self):
        for name in ("united", "product_class"):
            for thing in NO_FORMS:
                self.fails(BadForm, {"thing": thing}, name, thing, (2, 1, 3))
                self.fails(BadForm, {"thing": thing}, name, thing, "no form")
                self.fails(BadForm, {"thing": thing}, name, (1, 0, 1), thing)
            self.fails(OtherForms, {}, name, (2, 1, 3), (1, 0, 1))
            self.fails(OtherForms, {}, name, (1, 0, 1), (1, 0, 4))


if __name__ == "__main__":
    unittest.main()
