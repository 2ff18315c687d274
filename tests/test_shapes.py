"""[9.1] shapes and tidy shapes, [9.2] inner splits."""

import itertools
import random
import unittest
from rulertrees.errors import BadDial, BadShape
from tests import naive_trees
from tests.helpers import Case, ODD_VALUES, otherwise_values

SMALL = ((0, 1, 2),)
FOUR = ((0, 2, 4), (1, 3, 4))
FIVE = ((0, 3, 6), (1, 5, 6), (2, 4, 5))
SIX = ((0, 1, 6), (2, 3, 7), (4, 5, 8), (6, 7, 8))
SHAPES = {many: naive_trees.all_shapes(many) for many in range(3, 7)}
NO_SHAPES = [thing for thing in ODD_VALUES if not naive_trees.is_shape(thing)] + [
    (), ((),), ((0, 1, 2), (0, 1, 2)), ((0, 2, 1),), ((0, 1, 1),), ((0, 1, 3),), ((1, 2, 3),), [(0, 1, 2)], ([0, 1, 2],),
    ((False, True, 2),), ((0, 1, 2, 3),), ((0, 1),), (0, 1, 2), ((-1, 0, 1),), ((0, 1, "2"),), ((0, 1, None),),
    ((0, 1, 4), (2, 3, 5)), ((0, 1, 4), (2, 3, 4), (2, 3, 4)), ((0, 1, 2), (3, 4, 4)), ((0, 1, 4), (3, 2, 4)),
    ((0, 1, 4), (4, 2, 3)), ((0, 1, 4), (2, 3, True)), ((0, 1, 4), [2, 3, 4]), [(0, 1, 4), (2, 3, 4)],
    ((0, 1, 4), (2, 3, 4), ()), ((0, 1, 4, 4), (2, 3)), ((0, 1, 3), (2, 3, 4)), ((0, 1, 5), (2, 3, 5)),
    # In two lots: one node alone, and two that are tied twice.
    ((0, 1, 2), (3, 5, 6), (4, 5, 6)), ((0, 1, 6), (2, 3, 6), (4, 5, 7)),
    ((0, 1, 6), (2, 6, 7), (3, 7, 8), (4, 5, 8), (9, 10, 11)), ((0, 1, 2), (3, 6, 7), (4, 7, 8), (5, 6, 8)),
    ((0, 1, 6), (2, 3, 6), (4, 7, 8), (5, 7, 8)), ((0, 1, 6), (2, 7, 8), (3, 7, 8), (4, 5, 6)),
    # Seven outer dials, and nodes with more ends.
    ((0, 1, 7), (2, 7, 8), (3, 8, 9), (4, 9, 10), (5, 6, 10)), ((0, 1, 2, 3),), ((0, 1, 2, 5), (3, 4, 5)),
    ((0, 1, 10 ** 30), (2, 3, 10 ** 30))]


def renumberings(shape):
    """The shape with its inner dials numbered in each way, its nodes in some other orders."""
    inner = naive_trees.inner_dials(shape)
    for order in itertools.permutations(inner):
        other = naive_trees.renumbered(shape, dict(zip(inner, order)))
        yield other
        yield other[::-1]
        yield other[1:] + other[:1]


class ShapesTest(Case):

    def test_is_shape(self):
        for many, shapes in SHAPES.items():
            for shape in shapes:
                self.gives(True, "is_shape", shape)
        for shape in (FOUR, FIVE, SIX):
            for other in renumberings(shape):
                self.gives(True, "is_shape", other)
        for thing in NO_SHAPES:
            self.assertFalse(naive_trees.is_shape(thing), thing)
            self.gives(False, "is_shape", thing)
        for shape in (SMALL, FOUR, FIVE, SIX):
            for thing in otherwise_values(shape):
                self.gives(naive_trees.is_shape(thing), "is_shape", thing)

    def test_random_nodes(self):
        chance = random.Random(1)
        found = {True: 0, False: 0}
        for _ in range(2000):
            many = chance.randrange(3, 7)
            inner = list(range(many, 2 * many - 3))
            ends = list(range(many)) + inner + inner
            chance.shuffle(ends)
            thing = tuple(tuple(sorted(ends[at:at + 3])) for at in range(0, len(ends), 3))
            found[naive_trees.is_shape(thing)] += 1
            self.gives(naive_trees.is_shape(thing), "is_shape", thing)
        self.assertGreater(min(found.values()), 100)

    def test_all_tidy_shapes(self):
        for many, number in ((3, 1), (4, 3), (5, 15), (6, 105)):
            self.assertEqual(len(SHAPES[many]), number)
            self.gives(tuple(SHAPES[many]), "shapes", many)

    def test_tidy(self):
        for many, shapes in SHAPES.items():
            for at, shape in enumerate(shapes):
                self.gives(shape, "tidy", shape)
                if at % 9 == 0:
                    for other in renumberings(shape):
                        self.gives(shape, "tidy", other)
                        self.assertEqual(naive_trees.tidy(other), shape)
        self.gives(((0, 3, 6), (1, 5, 6), (2, 4, 5)), "tidy", ((2, 4, 6), (0, 3, 5), (1, 5, 6)))

    def test_inner_splits(self):
        for many, shapes in SHAPES.items():
            for shape in shapes:
                for dial in naive_trees.inner_dials(shape):
                    self.gives(naive_trees.inner_split(shape, dial), "inner_split", shape, dial)
        for other in renumberings(SIX):
            for dial in (6, 7, 8):
                self.gives(naive_trees.inner_split(other, dial), "inner_split", other, dial)
        self.gives((0, 1, 4, 5), "inner_split", SIX, 7)
        self.gives((0, 3), "inner_split", FIVE, 6)

    def test_examples(self):
        self.gives((((0, 1, 4), (2, 3, 4)), ((0, 2, 4), (1, 3, 4)), ((0, 3, 4), (1, 2, 4))), "shapes", 4)
        self.gives((0, 2), "inner_split", ((0, 2, 4), (1, 3, 4)), 4)
        self.assertEqual(len(self.call("shapes", 6)), 105)

    def test_errors(self):
        for thing in NO_SHAPES:
            self.fails(BadShape, {"thing": thing}, "tidy", thing)
            self.fails(BadShape, {"thing": thing}, "inner_split", thing, 4)
            self.fails(BadShape, {"thing": thing}, "inner_split", thing, "no dial")
        for shape, many in ((SMALL, 3), (FOUR, 4), (FIVE, 5), (SIX, 6)):
            inner = naive_trees.inner_dials(shape)
            for dial in list(range(-1, 12)) + [True, None, "4", (4,), [4], 10 ** 30, (many,), str(many)]:
                if not isinstance(dial, int) or isinstance(dial, bool) or dial not in inner:
                    self.fails(BadDial, {"dial": dial}, "inner_split", shape, dial)


class ShapeOfSplitsTest(Case):

    def test_splits_in_any_order(self):
        for many, shapes in SHAPES.items():
            for at, shape in enumerate(shapes):
                splits = naive_trees.inner_splits(shape)
                self.gives(shape, "shape_of_splits", many, tuple(splits))
                if at % 5 == 0:
                    for order in itertools.permutations(splits):
                        self.gives(shape, "shape_of_splits", many, order)

    def test_too_many_too_few_and_one_twice(self):
        for many, shapes in SHAPES.items():
            for shape in shapes[::7]:
                splits = tuple(naive_trees.inner_splits(shape))
                if splits:
                    self.gives(None, "shape_of_splits", many, splits[1:])
                    self.gives(None, "shape_of_splits", many, splits + splits[:1])
                    self.gives(None, "shape_of_splits", many, splits[1:] + splits[-1:] if len(splits) > 1 else splits * 2)
        for many in (4, 5, 6):
            self.gives(None, "shape_of_splits", many, ())
            self.gives(None, "shape_of_splits", many, ((0, 1),) * (many - 2))
        for many in (5, 6):
            self.gives(None, "shape_of_splits", many, ((0, 1),) * (many - 3))
        self.gives(SMALL, "shape_of_splits", 3, ())

    def test_all_sets_of_splits(self):
        for many in (4, 5, 6):
            splits = naive_trees.splits_of(many)
            expected = {tuple(naive_trees.inner_splits(shape)): shape for shape in SHAPES[many]}
            none = 0
            for at, chosen in enumerate(itertools.combinations(splits, many - 3)):
                if many < 6 or at % 7 == 0 or chosen in expected:
                    self.gives(expected.get(chosen), "shape_of_splits", many, chosen)
                    none += chosen not in expected
            self.assertTrue(none > 3 or many == 4)
        self.gives(None, "shape_of_splits", 5, ((0, 1), (0, 2)))
        self.gives(None, "shape_of_splits", 4, ((0, 1), (0, 2)))
        self.gives(None, "shape_of_splits", 6, ((0, 1), (0, 1, 2), (0, 1, 3)))


if __name__ == "__main__":
    unittest.main()
