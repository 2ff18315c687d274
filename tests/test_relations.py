"""[2.1] relations and values, [2.2] the last place, [2.3] changed relations, [2.4] orders and products."""

import itertools
import math
import random
import unittest
from rulertrees.errors import BadChanges, BadDial, BadOrder, BadPlaces, BadRelation, TooManyDials
from tests import naive
from tests.helpers import Case, ODD_VALUES, otherwise_values

PRODUCT = (0, 1, 0, 0, 0, 0, -1, 0)  # x y = z
STAY = (1, 0, 0, 1)
PLACES = naive.SMALL_PLACES + ((10 ** 9, 1), (-(10 ** 9), 999999937))
CHANGES = (STAY, (0, 1, 1, 0), (2, 0, 0, 2), (-6, 3, 3, 0), (1, 5, 0, 1), (4, -2, 2, 8), (10 ** 9, 1, 0, -1))


def is_relation(thing):
    if type(thing) is not tuple or len(thing) not in (2, 4, 8, 16, 32, 64):
        return False
    return naive.is_ints(thing, len(thing)) and bool(naive.is_short(thing))


def some_relations(seed, many, bound=4):
    """Relations of each number of dials, with more and fewer zeros."""
    chance = random.Random(seed)
    found = []
    while len(found) < many:
        count = 1 + len(found) % 6
        items = [chance.randrange(-bound, bound + 1) * chance.choice((0, 1, 1)) for _ in range(2 ** count)]
        if any(items):
            found.append(naive.short(items))
    return found


def dials(relation):
    return len(relation).bit_length() - 1


NO_RELATIONS = [thing for thing in ODD_VALUES if not is_relation(thing)]
NO_DIALS = (-1, 3, 10 ** 30, True, False, None, "0", (0,), [0], {}, ())
NO_PLACE_TUPLES = (None, True, 3, "", (), [], {}, ((1, 0),), ((1, 0),) * 2, ((1, 0),) * 4, [(1, 0)] * 3,
                   ((1, 0), (1, 0), (2, 2)), ((1, 0), (0, True), (1, 0)), ([1, 0], (1, 0), (1, 0)), (1, 0, 1),
                   ((1, 0), (1, 0), None), ((0, 0), (1, 0), (1, 0)), {(1, 0): 1, (0, 1): 1, (1, 1): 1})


class IsRelationTest(Case):

    def test_numbers_of_dials(self):
        for relation in some_relations(1, 120):
            self.gives(True, "is_relation", relation)
            self.gives(dials(relation), "dials_of", relation)
            self.gives(False, "is_relation", tuple(-item for item in relation))
            self.gives(False, "is_relation", tuple(2 * item for item in relation))
            self.gives(False, "is_relation", list(relation))
            self.gives(False, "is_relation", relation + (1,))
        for length in range(70):
            self.gives(length in (2, 4, 8, 16, 32, 64), "is_relation", (1,) * length)
        self.gives(False, "is_relation", (1,) * 128)

    def test_all_small_pairs(self):
        for pair in itertools.product(range(-5, 6), repeat=2):
            self.gives(is_relation(pair), "is_relation", pair)

    def test_any_value(self):
        for thing in ODD_VALUES:
            self.gives(is_relation(thing), "is_relation", thing)
        for relation in ((1, 0), (0, 3, -2, 0), PRODUCT):
            for thing in otherwise_values(relation):
                self.gives(is_relation(thing), "is_relation", thing)
        self.gives(True, "is_relation", (10 ** 39, 1))
        self.gives(False, "is_relation", (True, 0))
        self.gives(False, "is_relation", (1, False))


class ValueTest(Case):

    def test_values(self):
        chance = random.Random(2)
        for relation in some_relations(3, 120):
            for _ in range(4):
                places = tuple(chance.choice(PLACES) for _ in range(dials(relation)))
                expected = naive.value(relation, places)
                self.gives(expected, "value", relation, places)
                self.gives(expected == 0, "holds", relation, places)

    def test_each_item_at_its_row(self):
        for k in range(8):
            relation = tuple(int(k == m) for m in range(8))
            places = tuple((1, 0) if bit == "0" else (0, 1) for bit in f"{k:03b}")
            self.gives(1, "value", relation, places)
            for dial in range(3):
                flipped = places[:dial] + (places[dial][::-1],) + places[dial + 1:]
                self.gives(0, "value", relation, flipped)

    def test_examples(self):
        self.gives(True, "holds", PRODUCT, ((2, 1), (3, 1), (6, 1)))
        self.gives(False, "holds", PRODUCT, ((2, 1), (3, 1), (7, 1)))
        self.gives(-1, "value", PRODUCT, ((2, 1), (3, 1), (7, 1)))
        self.gives(10 ** 24 - 1, "value", (10 ** 6, -1), ((10 ** 18, 1),))

    def test_wrong_relations(self):
        for thing in NO_RELATIONS:
            for name in ("value", "holds"):
                self.fails(BadRelation, {"thing": thing}, name, thing, ((1, 0),) * 3)
                self.fails(BadRelation, {"thing": thing}, name, thing, "no places")

    def test_wrong_places(self):
        for thing in NO_PLACE_TUPLES:
            for name in ("value", "holds"):
                self.fails(BadPlaces, {"thing": thing}, name, PRODUCT, thing)
        for thing in otherwise_values(((1, 0), (2, 3))):
            good = type(thing) is tuple and len(thing) == 2 and all(
                naive.is_ints(p, 2) and math.gcd(*p) == 1 and (p[1] > 0 or p == (1, 0)) for p in thing)
            if not good:
                self.fails(BadPlaces, {"thing": thing}, "value", (0, 1, -1, 0), thing)


class LastPlaceTest(Case):

    def test_each_dial(self):
        chance = random.Random(4)
        for relation in some_relations(5, 150):
            count = dials(relation)
            for dial in range(count):
                others = [chance.choice(naive.SMALL_PLACES) for _ in range(count - 1)]
                place = self.call("last_place", relation, dial, tuple(others))
                holding = [p for p in naive.SMALL_PLACES if not naive.value(relation, others[:dial] + [p] + others[dial:])]
                if place is None:
                    self.assertEqual(holding, list(naive.SMALL_PLACES))
                else:
                    self.gives(True, "is_place", place)
                    self.assertEqual(naive.value(relation, others[:dial] + [place] + others[dial:]), 0)
                    self.assertLessEqual(len(holding), 1)

    def test_examples(self):
        self.gives((6, 1), "last_place", PRODUCT, 2, ((2, 1), (3, 1)))
        self.gives((2, 3), "last_place", PRODUCT, 0, ((3, 1), (2, 1)))
        self.gives((-2, 3), "last_place", PRODUCT, 1, ((-3, 1), (2, 1)))
        self.gives(None, "last_place", PRODUCT, 2, ((0, 1), (1, 0)))
        self.gives((1, 0), "last_place", PRODUCT, 2, ((1, 1), (1, 0)))

    def test_every_place(self):
        relation = (0, 1, -1, 0, 0, 0, 0, 0)
        self.gives(None, "last_place", relation, 1, ((0, 1), (5, 1)))
        self.gives(None, "last_place", relation, 0, ((5, 1), (5, 1)))
        self.gives((0, 1), "last_place", relation, 0, ((4, 1), (5, 1)))
        self.gives((5, 1), "last_place", relation, 2, ((4, 1), (5, 1)))

    def test_one_dial(self):
        for relation, place in (((1, 0), (0, 1)), ((0, 1), (1, 0)), ((2, -3), (3, 2)), ((2, 3), (-3, 2))):
            self.gives(place, "last_place", relation, 0, ())

    def test_errors(self):
        good = ((1, 0), (0, 1))
        for thing in NO_RELATIONS:
            self.fails(BadRelation, {"thing": thing}, "last_place", thing, 0, good)
            self.fails(BadRelation, {"thing": thing}, "last_place", thing, None, None)
        for dial in NO_DIALS:
            self.fails(BadDial, {"dial": dial}, "last_place", PRODUCT, dial, good)
            self.fails(BadDial, {"dial": dial}, "last_place", PRODUCT, dial, None)
        for thing in (None, (), good + good[:1], good[:1], list(good), ((1, 0), (True, 1)), ((1, 0), (2, 2)), "ab"):
            self.fails(BadPlaces, {"thing": thing}, "last_place", PRODUCT, 1, thing)
        self.fails(BadDial, {"dial": 1}, "last_place", (1, 0), 1, ())
        self.fails(BadPlaces, {"thing": ((1, 0),)}, "last_place", (1, 0), 0, ((1, 0),))


class ChangedTest(Case):

    def test_items_and_back(self):
        chance = random.Random(6)
        for relation in some_relations(7, 90):
            changes = tuple(chance.choice(CHANGES) for _ in range(dials(relation)))
            found = self.call("changed", relation, changes)
            self.assertEqual(found, naive.changed(relation, changes))
            self.gives(True, "is_relation", found)
            back = tuple((s, -q, -r, p) for p, q, r, s in changes)
            self.gives(relation, "changed", found, back)

    def test_holds_where_the_changes_move(self):
        chance = random.Random(8)
        for relation in some_relations(9, 60):
            changes = tuple(chance.choice(CHANGES) for _ in range(dials(relation)))
            found = self.call("changed", relation, changes)
            others = tuple(chance.choice(naive.SMALL_PLACES) for _ in range(dials(relation) - 1))
            last = self.call("last_place", found, dials(relation) - 1, others) or (1, 0)
            moved = tuple(self.call("moved", change, place) for change, place in zip(changes, others + (last,)))
            self.gives(True, "holds", relation, moved)

    def test_examples(self):
        self.gives((0, 0, 1, 0, 0, -1, 0, 0), "changed", PRODUCT, ((0, 1, 1, 0), STAY, STAY))
        self.gives((1, -1), "changed", (1, 0), ((7, -7, 0, 1),))
        self.gives((1, 0), "changed", (1, 0), ((-5, 0, 3, 1),))

    def test_errors(self):
        good = (STAY,) * 3
        for thing in NO_RELATIONS:
            self.fails(BadRelation, {"thing": thing}, "changed", thing, good)
            self.fails(BadRelation, {"thing": thing}, "changed", thing, None)
        wrong = (None, True, (), [], STAY, good[:2], good + good[:1], list(good), good[:2] + ((1, 1, 1, 1),),
                 ((1, 0, 0, True),) + good[1:], good[:1] + ([1, 0, 0, 1],) + good[2:], good[:2] + ((1, 0, 0),), "abc")
        for thing in wrong:
            self.fails(BadChanges, {"thing": thing}, "changed", PRODUCT, thing)
        for thing in otherwise_values(good):
            if not naive.is_changes(thing):
                self.fails(BadChanges, {"thing": thing}, "changed", PRODUCT, thing)


class ReorderedTest(Case):

    def test_items_and_back(self):
        chance = random.Random(10)
        for relation in some_relations(11, 90):
            order = tuple(chance.sample(range(dials(relation)), dials(relation)))
            found = self.call("reordered", relation, order)
            self.assertEqual(found, naive.reordered(relation, order))
            back = tuple(order.index(dial) for dial in range(len(order)))
            self.gives(relation, "reordered", found, back)

    def test_holds_in_the_other_order(self):
        relation = (0, 1, 0, 0, 0, 0, -1, 0)
        places = ((2, 1), (3, 1), (6, 1))
        for order in itertools.permutations(range(3)):
            found = self.call("reordered", relation, order)
            self.gives(True, "holds", found, tuple(places[dial] for dial in order))
        self.gives((0, 0, 0, 1, -1, 0, 0, 0), "reordered", relation, (2, 0, 1))

    def test_the_sign_is_trimmed(self):
        self.gives((0, 1, -2, 0), "reordered", (0, 2, -1, 0), (1, 0))

    def test_errors(self):
        for thing in NO_RELATIONS:
            self.fails(BadRelation, {"thing": thing}, "reordered", thing, (0, 1, 2))
            self.fails(BadRelation, {"thing": thing}, "reordered", thing, None)
        wrong = (None, True, 3, "012", (), (0,), (0, 1), (0, 1, 1), (0, 1, 3), (-1, 0, 1), (0, 1, 2, 2), (0, 1, 2, 3),
                 [0, 1, 2], (0, True, 2), (False, 1, 2), (0, 1, "2"), (0, 1, None), ((0,), 1, 2), {0: 1, 1: 2, 2: 0})
        for thing in wrong:
            self.fails(BadOrder, {"thing": thing}, "reordered", PRODUCT, thing)


class TimesTest(Case):

    def test_products(self):
        relations = some_relations(12, 60)
        chance = random.Random(13)
        for one, other in itertools.product(relations, repeat=2):
            if dials(one) + dials(other) > 6:
                self.fails(TooManyDials, {}, "times", one, other)
                continue
            found = self.call("times", one, other)
            self.gives(True, "is_relation", found)
            places = tuple(chance.choice(naive.SMALL_PLACES) for _ in range(dials(one) + dials(other)))
            first, last = places[:dials(one)], places[dials(one):]
            self.assertEqual(naive.value(found, places), naive.value(one, first) * naive.value(other, last))

    def test_examples(self):
        self.gives((0, 1, -1, 0, 0, 0, 0, 0), "times", (1, 0), (0, 1, -1, 0))
        self.gives((0, 0, 1, 0, -1, 0, 0, 0), "times", (0, 1, -1, 0), (1, 0))

    def test_errors(self):
        for thing in NO_RELATIONS:
            self.fails(BadRelation, {"thing": thing}, "times", thing, PRODUCT)
            self.fails(BadRelation, {"thing": thing}, "times", thing, "no relation")
            self.fails(BadRelation, {"thing": thing}, "times", (1,) * 64, thing)
        self.fails(TooManyDials, {}, "times", PRODUCT, (1,) * 16)
        self.fails(TooManyDials, {}, "times", (1,) * 64, (1, 0))
        self.gives((1,) * 64, "times", (1, 1), (1,) * 32)


if __name__ == "__main__":
    unittest.main()
