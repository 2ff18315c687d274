"""[2.5] pieces, parts and whole relations."""

import itertools
import random
import unittest
from rulertrees.errors import BadRelation, BadSplit
from tests import naive
from tests.helpers import Case, ODD_VALUES
from tests.test_relations import NO_RELATIONS, dials, some_relations

PRODUCT = (0, 1, 0, 0, 0, 0, -1, 0)


def splits(count):
    return [some for size in range(1, count) for some in itertools.combinations(range(count), size)]


def naive_pieces(relation):
    """The sets of the finest division: two dials are in one set if no split at which it falls apart parts them."""
    apart = [some for some in splits(dials(relation)) if naive.rank(naive.table(relation, some)) == 1]
    sets = []
    for dial in range(dials(relation)):
        mates = tuple(other for other in range(dials(relation)) if all((dial in some) == (other in some) for some in apart))
        if mates not in sets:
            sets.append(mates)
    return sets


def products(seed, many):
    """Relations that are products of two and more relations, their dials in any order."""
    chance = random.Random(seed)
    found = []
    while len(found) < many:
        sizes = chance.choice(((1, 1), (1, 2), (2, 2), (1, 1, 1), (1, 3), (3, 3), (1, 2, 3), (2, 2, 2), (1, 1, 2, 2),
                               (1,) * 6, (1, 5), (2, 4), (1, 1, 4), (1, 1, 1, 3), (5,), (6,)))
        relation = (1,)
        for size in sizes:
            items = [chance.randrange(-3, 4) for _ in range(2 ** size)]
            if not any(items):
                items[-1] = 1
            relation = tuple(one * other for one in relation for other in naive.short(items))
        order = tuple(chance.sample(range(sum(sizes)), sum(sizes)))
        found.append(naive.reordered(relation, order))
    return found


class FallsApartTest(Case):

    def test_each_split(self):
        for relation in some_relations(21, 60) + products(22, 60):
            for some in splits(dials(relation)):
                expected = naive.rank(naive.table(relation, some)) == 1
                self.gives(expected, "falls_apart", relation, some)

    def test_examples(self):
        relation = (0, 1, -1, 0, 0, 0, 0, 0)
        self.gives(True, "falls_apart", relation, (0,))
        self.gives(True, "falls_apart", relation, (1, 2))
        self.gives(False, "falls_apart", relation, (1,))
        self.gives(False, "falls_apart", relation, (0, 2))

    def test_wrong_relations(self):
        for thing in NO_RELATIONS:
            self.fails(BadRelation, {"thing": thing}, "falls_apart", thing, (0,))
            self.fails(BadRelation, {"thing": thing}, "falls_apart", thing, None)
            for name in ("pieces", "parts", "is_whole"):
                self.fails(BadRelation, {"thing": thing}, name, thing)

    def test_wrong_splits(self):
        wrong = (None, True, False, 0, "0", "", (), [], [0], {0: 1}, (0, 1, 2), (1, 0), (0, 0), (2, 1), (1, 1), (-1,),
                 (-1, 0), (3,), (0, 3), (True,), (False,), (0, True), (False, 1), (None,), ("0",), ((0,),), (0, [1]),
                 (0, 1, 2, 3), (0, 0, 1), (10 ** 30,))
        for thing in wrong:
            self.fails(BadSplit, {"thing": thing}, "falls_apart", PRODUCT, thing)
        for thing in ODD_VALUES:
            if thing not in ((0,), (1,)) or type(thing) is not tuple or type(thing[0]) is bool:
                self.fails(BadSplit, {"thing": thing}, "falls_apart", PRODUCT, thing)
        for thing in ((0,), (), (1,)):
            self.fails(BadSplit, {"thing": thing}, "falls_apart", (1, 0), thing)
        self.gives(True, "falls_apart", (1, 0, 0, 0), (1,))


class PiecesTest(Case):

    def check(self, relation):
        found = self.call("pieces", relation)
        self.assertEqual([some for some, _ in found], sorted(naive_pieces(relation)))
        product = (1,)
        for some, piece in found:
            self.gives(True, "is_relation", piece)
            self.assertEqual(dials(piece), len(some))
            product = tuple(one * other for one in product for other in piece)
        order = [dial for some, _ in found for dial in some]
        self.assertEqual(naive.reordered(product, tuple(order.index(dial) for dial in range(len(order)))), relation)
        alone = tuple((some[0], naive_root(piece)) for some, piece in found if len(some) == 1)
        self.gives(alone, "parts", relation)
        self.gives(len(found) == 1 and dials(relation) > 1, "is_whole", relation)

    def test_products_in_any_order(self):
        for relation in products(23, 150):
            self.check(relation)

    def test_relations(self):
        for relation in some_relations(24, 120) + some_relations(25, 120, 1):
            self.check(relation)

    def test_all_small_cubes(self):
        for items in itertools.product((-1, 0, 1), repeat=8):
            if any(items) and naive.short(items) == items:
                self.check(items)

    def test_one_dial(self):
        self.gives((((0,), (2, 3)),), "pieces", (2, 3))
        self.gives(((0, (-3, 2)),), "parts", (2, 3))
        self.gives(False, "is_whole", (2, 3))

    def test_a_piece_holds_or_another_one(self):
        for relation in products(26, 40):
            found = self.call("pieces", relation)
            for place in naive.SMALL_PLACES:
                places = [place] + list(naive.SMALL_PLACES[:dials(relation) - 1])
                one_holds = any(naive.value(piece, [places[dial] for dial in some]) == 0 for some, piece in found)
                self.assertEqual(naive.value(relation, places) == 0, one_holds)

    def test_examples(self):
        relation = (0, 1, -1, 0, 0, 0, 0, 0)
        self.gives((((0,), (1, 0)), ((1, 2), (0, 1, -1, 0))), "pieces", relation)
        self.gives(((0, (0, 1)),), "parts", relation)
        self.gives(False, "is_whole", relation)
        self.gives(True, "is_whole", PRODUCT)
        self.gives(((0, (1, 0)), (1, (0, 1)), (2, (1, 1))), "parts", (0, 0, 0, 0, 1, -1, 0, 0))

    def test_sets_that_cross(self):
        relation = naive.reordered((0, 0, 0, 0, 0, 1, -1, 0, 0, -1, 1, 0, 0, 0, 0, 0), (0, 2, 1, 3))
        self.gives((((0, 2), (0, 1, -1, 0)), ((1, 3), (0, 1, -1, 0))), "pieces", relation)


def naive_root(piece):
    a, b = piece[1], -piece[0]
    return naive.short((a, b)) if b == 0 else tuple(number * (1 if b > 0 else -1) for number in (a, b))


if __name__ == "__main__":
    unittest.main()
