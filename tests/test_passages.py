"""[11.1] passages, [11.2] the last dial, [11.3] free inner dials."""

import itertools
import random
import time
import unittest
from rulertrees.errors import BadDial, BadPlaces, BadTree
from tests import naive
from tests import naive_trees
from tests.helpers import Case, ODD_VALUES, otherwise_values
from tests.test_places import NO_PLACES
from tests.test_shapes import FIVE, FOUR, SHAPES, SIX, SMALL, renumberings
from tests.test_trees import CHANGES, NO_TREES, OPEN, PRODUCT, TREE, moved_tree, random_tree

PLACES = ((1, 0), (0, 1), (1, 1), (-1, 1), (2, 1), (1, 2))


def loose_tree(chance, shape):
    """A tree whose cubes have many zeros, so that inner dials stay free at many places."""
    cubes = []
    for _ in shape:
        items = [chance.choice((0, 0, 0, 0, 1, -1)) for _ in range(8)]
        cubes.append(naive.short(items) if any(items) else PRODUCT)
    return (shape, tuple(cubes))


def trees(seed, step=9):
    chance = random.Random(seed)
    shapes = [SMALL, FOUR, FIVE, SIX, SIX[::-1], ((2, 4, 6), (0, 3, 5), (1, 5, 6))]
    shapes += [shape for many in (4, 5, 6) for shape in SHAPES[many][::step]]
    found = [TREE, OPEN]
    for shape in shapes:
        found += [random_tree(chance, shape, 2), loose_tree(chance, shape), loose_tree(chance, shape)]
    return found


def is_place(thing):
    return naive.is_ints(thing, 2) and (thing == (1, 0) or thing[1] > 0 and naive.math.gcd(*thing) == 1)


def passage_holds(tree, places, thing):
    """Whether a value is a passage, straight from the definition."""
    shape, cubes = tree
    inner = naive_trees.inner_dials(shape)
    if type(thing) is not tuple or len(thing) != len(inner) or not all(is_place(place) for place in thing):
        return False
    where = dict(enumerate(places)) | dict(zip(inner, thing))
    return all(naive.value(cube, [where[end] for end in node]) == 0 for node, cube in zip(shape, cubes))


def side(tree, places, dial, at):
    """The branch with the node of a number, cut at an inner dial: its leaves settled as one pair, (0, 0) if free."""
    shape, cubes = tree
    pair = [0, 0]
    ends = shape[at]
    sides = []
    for end in ends:
        if end == dial:
            sides.append(None)
        elif end < len(places):
            sides.append(places[end])
        else:
            other = next(k for k, node in enumerate(shape) if end in node and k != at)
            a, b = side(tree, places, end, other)
            sides.append((b, -a))
    for k, unit in enumerate(((1, 0), (0, 1))):
        pair[k] = naive.value(cubes[at], [unit if one is None else one for one in sides])
    # With (0, 0) as a place of an end all values are 0, and the end is free.
    return tuple(pair)


def cut(tree, places, dial):
    """The pairs that the two sides of an inner dial leave for its place."""
    return [side(tree, places, dial, at) for at, node in enumerate(tree[0]) if dial in node]


def some_places(chance, tree):
    """Places of the outer dials, in half of the cases read by the tree if it has nodes that can be settled."""
    many = naive_trees.outer(tree[0])
    places = [chance.choice(PLACES) for _ in range(many)]
    relation = naive_trees.relation_of(*tree)
    if relation is not None and chance.random() < 0.6:
        dial = chance.randrange(many)
        a, b = [naive.value(relation, places[:dial] + [unit] + places[dial + 1:]) for unit in ((1, 0), (0, 1))]
        if a or b:
            a, b = b, -a
            divisor = naive.math.gcd(a, b) * (-1 if b < 0 or b == 0 and a < 0 else 1)
            places[dial] = (a // divisor, b // divisor)
    return tuple(places)


class PassageTest(Case):

    def check(self, tree, places, found):
        shape, cubes = tree
        expected = naive_trees.reads(shape, cubes, places)
        self.gives(expected, "reads", tree, places)
        passage = self.call("passage", tree, places)
        free = self.call("free_dials", tree, places)
        if not expected:
            self.assertIsNone(passage)
            self.assertIsNone(free)
            found["none"] += 1
            return
        self.assertTrue(passage_holds(tree, places, passage), (tree, places, passage))
        self.gives(True, "passage_holds", tree, places, passage)
        inner = naive_trees.inner_dials(shape)
        self.assertEqual(free, tuple(dial for dial in inner if cut(tree, places, dial) == [(0, 0), (0, 0)]))
        for dial, (a, b) in zip(inner, passage):
            # The place of the passage is left by both sides.
            self.assertTrue(all(a * first + b * last == 0 for first, last in cut(tree, places, dial)))
        found["free" if free else "one"] += 1

    def test_places_node_by_node(self):
        chance = random.Random(1)
        found = {"none": 0, "one": 0, "free": 0}
        for tree in trees(2):
            for _ in range(25):
                self.check(tree, some_places(chance, tree), found)
        self.assertGreater(min(found.values()), 100, found)

    def test_all_passages_of_a_small_box(self):
        chance = random.Random(3)
        seen = {"none": 0, "one": 0, "free": 0}
        for tree in trees(4, 40):
            shape = tree[0]
            inner = naive_trees.inner_dials(shape)
            for _ in range(6):
                places = some_places(chance, tree)
                box = [thing for thing in itertools.product(PLACES, repeat=len(inner))
                       if passage_holds(tree, places, thing)]
                free = self.call("free_dials", tree, places)
                found = self.call("passage", tree, places)
                if found is None:
                    self.assertEqual(box, [])
                    seen["none"] += 1
                    continue
                for thing in box:
                    self.gives(True, "passage_holds", tree, places, thing)
                    for dial, place, other in zip(inner, thing, found):
                        self.assertTrue(dial in free or place == other)
                if all(place in PLACES for place in found):
                    self.assertIn(found, box)
                seen["free" if free else "one"] += 1
                if free == tuple(inner[:1]) and len(inner) == 1:
                    # Each place of a free dial has a passage.
                    self.assertEqual(len(box), len(PLACES))
        self.assertGreater(min(seen.values()), 5, seen)

    def test_numbered_otherwise(self):
        chance = random.Random(5)
        found = {"none": 0, "one": 0, "free": 0}
        for shape in list(renumberings(SIX))[::5] + list(renumberings(FIVE))[::3]:
            for tree in (random_tree(chance, shape), loose_tree(chance, shape)):
                for _ in range(4):
                    self.check(tree, some_places(chance, tree), found)

    def test_moved_passages(self):
        chance = random.Random(6)
        moves = 0
        for tree in trees(7, 20):
            inner = naive_trees.inner_dials(tree[0])
            changes = [chance.choice(CHANGES) for _ in inner]
            first = moved_tree(tree, changes)
            for _ in range(5):
                places = some_places(chance, tree)
                passage = self.call("passage", first, places)
                if passage is not None and inner:
                    moved = tuple(self.call("moved", change, place) for change, place in zip(changes, passage))
                    self.gives(True, "passage_holds", tree, places, moved)
                    moves += 1
                self.gives(self.call("free_dials", tree, places), "free_dials", first, places)
        self.assertGreater(moves, 30)

    def test_open_trees(self):
        for places in itertools.product(PLACES[:4], repeat=4):
            self.gives(True, "reads", OPEN, places)
            self.check(OPEN, places, {"none": 0, "one": 0, "free": 0})
        # The inner dial has one place alone, whatever those of the outer dials are, but where a cube is 0 already.
        tree = (FOUR, ((0, 0, 0, 0, 0, 0, 0, 1), (0, 0, 0, 0, 0, 0, 0, 1)))
        self.gives(None, "relation_of", tree)
        self.gives(((1, 0),), "passage", tree, ((1, 1),) * 4)
        self.gives((), "free_dials", tree, ((1, 1),) * 4)
        self.gives((), "free_dials", tree, ((1, 0), (1, 1), (1, 1), (1, 1)))
        self.gives((4,), "free_dials", tree, ((1, 0), (1, 0), (1, 1), (1, 1)))

    def test_free_inner_dials(self):
        # x = 0 and z = 0 leave the inner dial of x y = t and z t = w free at w = 0.
        tree = (((0, 1, 4), (2, 3, 4)), (PRODUCT, PRODUCT))
        self.gives((), "free_dials", tree, ((2, 1), (3, 1), (1, 1), (6, 1)))
        product = (((0, 1, 4), (2, 3, 4)), (PRODUCT, (0, 0, 1, 0, 0, -1, 0, 0)))
        self.gives((4,), "free_dials", product, ((0, 1), (1, 0), (0, 1), (0, 1)))
        for place in PLACES:
            self.gives(True, "passage_holds", product, ((0, 1), (1, 0), (0, 1), (0, 1)), (place,))
        self.gives((), "free_dials", product, ((0, 1), (1, 0), (1, 1), (0, 1)))
        self.gives(None, "free_dials", TREE, ((2, 1), (3, 1), (5, 1), (1, 1)))

    def test_one_node(self):
        tree = (SMALL, (PRODUCT,))
        self.gives((), "passage", tree, ((2, 1), (3, 1), (6, 1)))
        self.gives(None, "passage", tree, ((2, 1), (3, 1), (7, 1)))
        self.gives((), "free_dials", tree, ((2, 1), (3, 1), (6, 1)))
        self.gives(True, "passage_holds", tree, ((2, 1), (3, 1), (6, 1)), ())
        self.gives(False, "passage_holds", tree, ((2, 1), (3, 1), (7, 1)), ())

    def test_one_thing_otherwise(self):
        chance = random.Random(8)
        right = wrong = 0
        for tree in [TREE, OPEN, (SMALL, (PRODUCT,))] + [loose_tree(chance, shape) for shape in (FOUR, FIVE, SIX)] * 2:
            for _ in range(4):
                places = some_places(chance, tree)
                passage = self.call("passage", tree, places)
                for thing in otherwise_values(passage):
                    expected = passage_holds(tree, places, thing)
                    self.gives(expected, "passage_holds", tree, places, thing)
                    right += expected
                    wrong += not expected
        self.assertGreater(min(right, wrong), 10)

    def test_any_value(self):
        for thing in ODD_VALUES:
            for tree, places in ((TREE, ((2, 1), (3, 1), (5, 1), (-1, 1))), (OPEN, ((1, 1),) * 4),
                                 ((SIX, (PRODUCT,) * 4), ((0, 1),) * 6)):
                self.gives(passage_holds(tree, places, thing), "passage_holds", tree, places, thing)
        for thing in NO_PLACES:
            self.gives(False, "passage_holds", OPEN, ((1, 1),) * 4, (thing,))

    def test_examples(self):
        self.gives(((6, 1),), "passage", TREE, ((2, 1), (3, 1), (5, 1), (-1, 1)))
        self.gives((-1, 1), "last_read", TREE, 3, ((2, 1), (3, 1), (5, 1)))
        self.gives(None, "passage", TREE, ((2, 1), (3, 1), (5, 1), (1, 1)))
        self.gives((), "free_dials", TREE, ((2, 1), (3, 1), (5, 1), (-1, 1)))

    def test_errors(self):
        for name, rest in (("reads", ()), ("passage", ()), ("free_dials", ()), ("passage_holds", (((1, 1),),))):
            for thing in NO_TREES:
                for places in (((1, 0),) * 3, ((1, 0),) * 4, None):
                    self.fails(BadTree, {"thing": thing}, name, thing, places, *rest)
            for tree, many in (((SMALL, (PRODUCT,)), 3), (TREE, 4), (OPEN, 4), ((SIX, (PRODUCT,) * 4), 6)):
                for thing in [*ODD_VALUES, ((1, 0),) * (many - 1), ((1, 0),) * (many + 1), [(1, 0)] * many]:
                    if type(thing) is not tuple or len(thing) != many or not all(is_place(one) for one in thing):
                        self.fails(BadPlaces, {"thing": thing}, name, tree, thing, *rest)
                for place in NO_PLACES:
                    thing = ((1, 0),) * (many - 1) + (place,)
                    self.fails(BadPlaces, {"thing": thing}, name, tree, thing, *rest)

    def test_little_time(self):
        chance = random.Random(9)
        start = time.process_time()
        for shape in SHAPES[6][::6]:
            tree = random_tree(chance, shape, 100)
            for _ in range(5):
                places = tuple((chance.randrange(1, 997), 997) for _ in range(5))
                place = self.call("last_read", tree, 5, places)
                self.assertTrue(self.call("reads", tree, places + (place,)))
                self.assertIsNotNone(self.call("passage", tree, places + (place,)))
        self.assertLess(time.process_time() - start, 10)


class LastReadTest(Case):

    def test_places_that_are_read(self):
        chance = random.Random(10)
        seen = {"one": 0, "all": 0}
        for tree in trees(11):
            many = naive_trees.outer(tree[0])
            for _ in range(8):
                dial = chance.randrange(many)
                places = some_places(chance, tree)
                others = places[:dial] + places[dial + 1:]
                found = self.call("last_read", tree, dial, others)
                read = [place for place in PLACES
                        if naive_trees.reads(tree[0], tree[1], places[:dial] + (place,) + places[dial + 1:])]
                if found is None:
                    self.assertEqual(read, list(PLACES))
                    seen["all"] += 1
                else:
                    self.assertTrue(is_place(found))
                    self.assertEqual(read, [found] if found in PLACES else [])
                    self.assertTrue(
                        naive_trees.reads(tree[0], tree[1], places[:dial] + (found,) + places[dial + 1:]))
                    seen["one"] += 1
        self.assertGreater(min(seen.values()), 50, seen)

    def test_open_trees_read_all(self):
        for dial in range(4):
            for places in itertools.product(PLACES[:3], repeat=3):
                self.gives(None, "last_read", OPEN, dial, places)

    def test_errors(self):
        for thing in NO_TREES:
            for dial, places in ((0, ((1, 0),) * 2), (9, None), (None, ())):
                self.fails(BadTree, {"thing": thing}, "last_read", thing, dial, places)
        for tree, many in (((SMALL, (PRODUCT,)), 3), (TREE, 4), (OPEN, 4), ((SIX, (PRODUCT,) * 4), 6)):
            for dial in (*ODD_VALUES, -1, many, many + 1, "0", False, True, None, 0 - many, [0], (0,)):
                if type(dial) is not int or not 0 <= dial < many:
                    self.fails(BadDial, {"dial": dial}, "last_read", tree, dial, ((1, 0),) * (many - 1))
                    self.fails(BadDial, {"dial": dial}, "last_read", tree, dial, None)
            for thing in (None, (), ((1, 0),) * many, ((1, 0),) * (many - 2), [(1, 0)] * (many - 1),
                          ((1, 0),) * (many - 2) + ((2, 2),), ((1, 0),) * (many - 2) + (None,), "x", 1, {}):
                for dial in (0, many - 1):
                    self.fails(BadPlaces, {"thing": thing}, "last_read", tree, dial, thing)


if __name__ == "__main__":
    unittest.main()
