"""[1.3] places, [1.4] changes."""

import itertools
import math
import random
import unittest
from rulertrees.errors import AllZero, BadChange, BadPlace
from tests import naive
from tests.helpers import Case, ODD_VALUES, otherwise_values

BILLION = 10 ** 9


def is_place(thing):
    if not naive.is_ints(thing, 2) or math.gcd(*thing) != 1:
        return False
    return thing[1] > 0 or thing == (1, 0)


def some_places(bound):
    span = range(-bound, bound + 1)
    return [pair for pair in itertools.product(span, span) if is_place(pair)]


GREAT_PLACES = [(BILLION, 1), (-BILLION, 999999937), (1, BILLION), (999999937, BILLION), (-1, BILLION - 1)]
CHANGES = [(0, 1, 1, 0), (2, 0, 0, 2), (-1, 0, 0, 1), (3, -1, 4, 7), (0, -5, 1, 3), (1, BILLION, -BILLION, 1)]
NO_PLACES = [thing for thing in ODD_VALUES if not is_place(thing)]
NO_CHANGES = [thing for thing in ODD_VALUES if not naive.is_change(thing)]


class IsPlaceTest(Case):

    def test_pairs(self):
        for pair in itertools.product(range(-7, 8), repeat=2):
            self.gives(is_place(pair), "is_place", pair)
        for place in GREAT_PLACES:
            self.gives(True, "is_place", place)

    def test_edges(self):
        for place in ((1, 0), (0, 1), (-1, 1)):
            self.gives(True, "is_place", place)
        for thing in ((-1, 0), (2, 0), (0, 0), (0, -1), (0, 2), (2, 2), (1, -1), (True, 0), (1, False), (0, True)):
            self.gives(False, "is_place", thing)
        for thing in ([1, 0], (1, 0, 0), (1,), (), "10", None, {1: 0}, ((1, 0), (0, 1)), (1, [0]), ([1], 0), (1, "0")):
            self.gives(False, "is_place", thing)

    def test_any_value(self):
        for thing in ODD_VALUES:
            self.gives(is_place(thing), "is_place", thing)
        for place in ((3, 2), (1, 0), (0, 1)):
            for thing in otherwise_values(place):
                self.gives(is_place(thing), "is_place", thing)


class PlaceOfTest(Case):

    def test_multiples(self):
        for a, b in some_places(6) + GREAT_PLACES:
            for many in (1, -1, 2, -6, 10 ** 20):
                self.gives((a, b), "place_of", many * a, many * b)

    def test_examples(self):
        self.gives((-2, 3), "place_of", 4, -6)
        self.gives((1, 0), "place_of", -3, 0)
        self.gives((0, 1), "place_of", 0, -3)
        self.gives((1, 2), "place_of", -3, -6)

    def test_all_zero(self):
        self.fails(AllZero, {}, "place_of", 0, 0)


class ChangesTest(Case):

    def test_is_change(self):
        for thing in itertools.product(range(-2, 3), repeat=4):
            self.gives(thing[0] * thing[3] != thing[1] * thing[2], "is_change", thing)
        for thing in ODD_VALUES:
            self.gives(naive.is_change(thing), "is_change", thing)
        for thing in otherwise_values((2, 1, 1, 1)):
            self.gives(naive.is_change(thing), "is_change", thing)

    def test_moved(self):
        for change in CHANGES:
            p, q, r, s = change
            for a, b in some_places(3) + GREAT_PLACES:
                c, d = self.call("moved", change, (a, b))
                self.assertTrue(is_place((c, d)))
                self.assertEqual(c * (r * a + s * b), d * (p * a + q * b))
        self.gives((1, 0), "moved", (0, 1, 1, 0), (0, 1))
        self.gives((0, 1), "moved", (0, 1, 1, 0), (1, 0))
        self.gives((1, 0), "moved", (-3, 0, 0, 1), (1, 0))
        self.gives((1, 0), "moved", (1, 0, 2, -4), (2, 1))

    def test_product_moves_as_both(self):
        self.gives((2, 1, 1, 1), "change_product", (1, 1, 0, 1), (1, 0, 1, 1))
        self.gives((2, 4, 6, 10), "change_product", (1, 1, 2, 3), (0, 2, 2, 2))
        for one, other in itertools.product(CHANGES, repeat=2):
            both = self.call("change_product", one, other)
            for place in some_places(2):
                self.gives(self.call("moved", one, self.call("moved", other, place)), "moved", both, place)

    def test_inverse(self):
        self.gives((7, 1, -4, 3), "change_inverse", (3, -1, 4, 7))
        self.gives((0, 5, -1, 2), "change_inverse", (2, -5, 1, 0))
        for change in CHANGES:
            back = self.call("change_inverse", change)
            for place in some_places(2) + GREAT_PLACES:
                self.gives(place, "moved", back, self.call("moved", change, place))

    def test_wrong_changes(self):
        good = (1, 0, 0, 1)
        for thing in NO_CHANGES:
            self.fails(BadChange, {"thing": thing}, "moved", thing, (1, 0))
            self.fails(BadChange, {"thing": thing}, "moved", thing, None)
            self.fails(BadChange, {"thing": thing}, "change_product", thing, good)
            self.fails(BadChange, {"thing": thing}, "change_product", thing, "no change")
            self.fails(BadChange, {"thing": thing}, "change_product", good, thing)
            self.fails(BadChange, {"thing": thing}, "change_inverse", thing)

    def test_wrong_places(self):
        for thing in NO_PLACES:
            self.fails(BadPlace, {"thing": thing}, "moved", (0, 1, 1, 0), thing)


class ChangeBetweenTest(Case):

    def check(self, ones, others):
        change = self.call("change_between", ones, others)
        self.assertTrue(naive.is_change(change))
        self.assertTrue(all(len(str(abs(number))) <= 4000 for number in change))
        for one, other in zip(ones, others):
            p, q, r, s = change
            a, b = one
            c, d = p * a + q * b, r * a + s * b
            self.assertEqual(c * other[1], d * other[0])
            self.assertNotEqual((c, d), (0, 0))

    def test_small_places(self):
        triples = list(itertools.permutations(some_places(1) + [(2, 1)], 3))
        for ones, others in itertools.product(triples[::3], triples[::5]):
            self.check(ones, others)

    def test_great_places(self):
        chance = random.Random(3)
        places = some_places(3) + GREAT_PLACES
        for _ in range(300):
            ones, others = tuple(chance.sample(places, 3)), tuple(chance.sample(places, 3))
            self.check(ones, others)

    def test_multiples_alone(self):
        for change in CHANGES:
            ones = ((0, 1), (1, 0), (-2, 3))
            found = self.call("change_between", ones, tuple(self.call("moved", change, place) for place in ones))
            for k, m in itertools.combinations(range(4), 2):
                self.assertEqual(found[k] * change[m], found[m] * change[k])

    def test_first_wrong_item(self):
        good = ((1, 0), (0, 1), (1, 1))
        for thing in NO_PLACES:
            for at in range(3):
                wrong = good[:at] + (thing,) + good[at + 1:]
                self.fails(BadPlace, {"thing": thing}, "change_between", wrong, good)
                self.fails(BadPlace, {"thing": thing}, "change_between", good, wrong)
                self.fails(BadPlace, {"thing": thing}, "change_between", wrong, ((2, 2), 0, None))

    def test_items_that_stand_earlier(self):
        good = ((1, 0), (0, 1), (1, 1))
        for wrong, place in ((((1, 0), (1, 0), (2, 2)), (1, 0)), (((5, 1), (0, 1), (5, 1)), (5, 1)),
                             (((1, 0), (0, 1), (0, 1)), (0, 1))):
            self.fails(BadPlace, {"thing": place}, "change_between", wrong, good)
            self.fails(BadPlace, {"thing": place}, "change_between", good, wrong)
        self.fails(BadPlace, {"thing": (2, 2)}, "change_between", ((1, 0), (2, 2), (1, 0)), good)
        self.fails(BadPlace, {"thing": (1, 0)}, "change_between", ((1, 0), (1, 0), (2, 2)), (None, None, None))
        self.fails(BadPlace, {"thing": (True, 0)}, "change_between", ((1, 0), (True, 0), (2, 2)), good)

    def test_both_tuples_may_share_places(self):
        good = ((1, 0), (0, 1), (1, 1))
        self.check(good, good)
        self.check(good, (good[2], good[0], good[1]))


if __name__ == "__main__":
    unittest.main()
