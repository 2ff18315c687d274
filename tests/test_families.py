"""[10.1] good splits, [10.2] strong splits, and the bundles and knots of [10.3] and [10.6]."""

import itertools
import random
import time
import unittest
from rulertrees.errors import BadRelation
from tests import naive
from tests import naive_trees
from tests.helpers import Case
from tests.test_relations import NO_RELATIONS
from tests.test_shapes import SHAPES, SIX
from tests.test_splits import random_relation
from tests.test_standards import KNOT, NOT_WHOLE, changed_standard, random_changes, standard

FRAMES = {many: naive_trees.all_frames(many) for many in range(3, 7)}
ONE = (0, 0, 0, 1, 0, 0, 0, 0, 0, 0, 0, 0, -1, 0, 0, 0)
OTHER = (0, 0, 0, 1, 0, 0, 0, 0, 0, 0, 0, 0, 1, 0, 0, -1)


def random_knot(chance, many):
    """A relation without a good split, small ones by changes."""
    if many == 4 and chance.random() < 0.5:
        return naive.changed(KNOT, random_changes(chance, 4))
    while True:
        relation = random_relation(chance, many, 1, 2)
        if naive_trees.is_knot(relation):
            return relation


def random_hanging(chance, frame, numbers=(0, 1, -1, 2, 3)):
    """A hanging with bundles and knots that hangs a whole relation, though some bundles may make one."""
    relations = []
    for node in frame:
        if len(node) > 3 and chance.random() < 0.5:
            relations.append(random_knot(chance, len(node)))
        else:
            relations.append(changed_standard(chance, len(node), chance.choice(numbers)))
    return (frame, tuple(relations))


def whole_relations(seed, step=7, rounds=1):
    """Whole relations tied from standard relations and knots, with the hangings from which they come."""
    chance = random.Random(seed)
    found = []
    for many in range(3, 7):
        for at, frame in enumerate(FRAMES[many]):
            if many < 6 and at % 2 == 0 or at % step == 0:
                for _ in range(rounds):
                    hanging = random_hanging(chance, frame)
                    found.append((naive_trees.relation_of(*hanging), hanging))
    return found


class CrossTest(Case):

    def test_do_cross(self):
        for many in range(2, 6):
            splits = [dials for size in range(1, many) for dials in itertools.combinations(range(many), size)]
            for one, other in itertools.product(splits, repeat=2):
                self.gives(naive_trees.cross(many, one, other), "do_cross", many, one, other)
        self.gives(True, "do_cross", 4, (0, 1), (0, 2))
        self.gives(True, "do_cross", 4, (2, 3), (0, 2))
        self.gives(False, "do_cross", 5, (0, 1), (0, 1, 2))
        self.gives(False, "do_cross", 5, (0, 1, 2), (0, 1))
        self.gives(False, "do_cross", 6, (0, 1, 2), (3, 4, 5))
        self.gives(False, "do_cross", 6, (0, 1, 2, 3), (2, 3, 4, 5))
        self.gives(True, "do_cross", 6, (0, 1, 2, 3), (0, 3, 4))


class SplitsTest(Case):

    def test_good_and_strong_splits(self):
        strong, weak = 0, 0
        for relation, _ in whole_relations(1):
            good = tuple(naive_trees.good_splits(relation))
            self.gives(good, "good_splits", relation)
            expected = tuple(naive_trees.strong_splits(relation))
            self.gives(expected, "strong_splits", relation)
            strong += len(expected)
            weak += len(good) - len(expected)
        self.assertGreater(min(strong, weak), 10)

    def test_other_relations(self):
        chance = random.Random(2)
        for many in range(3, 7):
            for zeros in (0, 3, 8):
                relation = random_relation(chance, many, 2, zeros)
                if naive_trees.is_whole(relation):
                    self.gives(tuple(naive_trees.good_splits(relation)), "good_splits", relation)
                    self.gives(tuple(naive_trees.strong_splits(relation)), "strong_splits", relation)

    def test_corners_of_crossing_good_splits(self):
        for relation, _ in whole_relations(3, 11):
            many = naive_trees.count_dials(relation)
            good = self.call("good_splits", relation)
            everything = set(range(many))
            for one, other in itertools.combinations(good, 2):
                if not naive_trees.cross(many, one, other):
                    continue
                one, other = set(one), set(other)
                corners = [one & other, one - other, other - one, everything - one - other]
                for corner in corners + [corners[0] | corners[3]]:
                    corner = corner if 0 in corner else everything - corner
                    if 2 <= len(corner) <= many - 2:
                        self.assertIn(tuple(sorted(corner)), good)

    def test_examples(self):
        self.gives(((0, 1), (0, 2), (0, 3)), "good_splits", ONE)
        self.gives((), "strong_splits", ONE)
        self.gives(((0, 1),), "good_splits", OTHER)

    def test_errors(self):
        for name in ("good_splits", "strong_splits", "bundles_of", "knots_of", "many_shapes"):
            for thing in [*NO_RELATIONS, *NOT_WHOLE]:
                self.fails(BadRelation, {"thing": thing}, name, thing)


class BundlesTest(Case):

    def check(self, relation):
        """Compares with the nodes of a hanging that is right by its definition, and with the relation itself."""
        frame, relations = self.call("judge_hanging", relation)[1]
        self.assertTrue(naive_trees.is_right_hanging(relation, (frame, relations)))
        bundles, knots = [], []
        for at, node in enumerate(relations):
            partition = naive_trees.partition(frame, at)
            if naive_trees.is_knot(node):
                knots.append(partition)
            else:
                bundles.append((partition, node))
        found = self.call("bundles_of", relation)
        self.assertIs(type(found), tuple)
        self.assertEqual([partition for partition, _ in found], sorted(partition for partition, _ in bundles))
        for (partition, s), (_, node) in zip(found, sorted(bundles)):
            self.assertEqual(s, 0 if s == 0 else naive.squarefree(s))
            cube = naive_trees.some_whole_cube(node, [0, 1, 2], 1)
            self.assertTrue(naive_trees.are_class(naive.discriminant(naive.form(cube, 0)), s))
            kept = sorted(random.Random(2).choice(dials) for dials in partition[-3:])
            cube = naive_trees.some_whole_cube(relation, kept, 3)
            self.assertTrue(naive_trees.are_class(naive.discriminant(naive.form(cube, 0)), s))
        self.gives(tuple(sorted(knots)), "knots_of", relation)
        return bundles, knots

    def test_tied_relations(self):
        kinds = {}
        for relation, _ in whole_relations(4) + [(changed_standard(random.Random(9), 6, 2), None)]:
            bundles, knots = self.check(relation)
            kinds[len(bundles), len(knots)] = True
            kinds[max([len(partition) for partition, _ in bundles], default=0)] = True
        for kind in ((1, 0), (2, 0), (3, 0), (4, 0), (0, 1), (1, 1), (2, 1), 0, 3, 4, 5, 6):
            self.assertIn(kind, kinds)

    def test_how_many_shapes(self):
        numbers = {}
        for relation, _ in whole_relations(5, 5) + [(changed_standard(random.Random(9), 6, 2), None)]:
            many = naive_trees.count_dials(relation)
            good = set(naive_trees.good_splits(relation))
            expected = sum(good.issuperset(naive_trees.inner_splits(shape)) for shape in SHAPES[many])
            self.gives(expected, "many_shapes", relation)
            numbers[expected] = True
        for number in (0, 1, 3, 15, 105):
            self.assertIn(number, numbers)

    def test_standard_relations(self):
        chance = random.Random(6)
        for many in range(3, 7):
            for s in (0, 1, -1, 2, -30, 997):
                relation = changed_standard(chance, many, s)
                partition = tuple((dial,) for dial in range(many))
                self.gives(((partition, s),), "bundles_of", relation)
                self.gives((), "knots_of", relation)
                self.gives((1, 3, 15, 105)[many - 3], "many_shapes", relation)
                self.gives(1, "many_shapes", standard(3, s))

    def test_knots(self):
        chance = random.Random(7)
        for many in range(4, 7):
            relation = random_knot(chance, many)
            self.gives((), "bundles_of", relation)
            self.gives((tuple((dial,) for dial in range(many)),), "knots_of", relation)
            self.gives(0, "many_shapes", relation)

    def test_two_bundles_that_are_one(self):
        for s in (0, 1, -1, 2):
            tree = (((0, 1, 4), (2, 3, 4)), (standard(3, s),) * 2)
            relation = naive_trees.relation_of(*tree)
            # The forms at the inner dial are equal but for its bits, and these are exchanged.
            partition = ((0,), (1,), (2,), (3,))
            self.gives(3 if naive_trees.is_standard(relation) else 1, "many_shapes", relation)
            if naive_trees.is_standard(relation):
                self.gives(((partition, s),), "bundles_of", relation)

    def test_examples(self):
        self.gives(((((0,), (1,), (2,), (3,)), 1),), "bundles_of", ONE)
        self.gives(3, "many_shapes", ONE)
        self.gives(((((0,), (1,), (2, 3)), 1), (((0, 1), (2,), (3,)), 1)), "bundles_of", OTHER)
        self.gives(1, "many_shapes", OTHER)
        self.gives((((0,), (1,), (2,), (3,)),), "knots_of", KNOT)
        self.gives((), "bundles_of", KNOT)
        self.gives(0, "many_shapes", KNOT)

    def test_little_time(self):
        chance = random.Random(8)
        start = time.process_time()
        for shape in (SIX, SHAPES[6][0], SHAPES[6][50]):
            for _ in range(3):
                while True:
                    hanging = (shape, tuple(changed_standard(chance, 3, chance.choice((0, 1, -1, 2))) for _ in shape))
                    relation = naive_trees.relation_of(*hanging)
                    if max(map(abs, relation)) <= 1000:
                        break
                self.assertGreaterEqual(len(self.call("bundles_of", relation)), 1)
                self.assertGreaterEqual(self.call("many_shapes", relation), 1)
        for _ in range(3):
            relation = random_relation(chance, 6, 20, 0)
            self.gives((), "bundles_of", relation)
            self.gives((tuple((dial,) for dial in range(6)),), "knots_of", relation)
        self.assertLess(time.process_time() - start, 20)


if __name__ == "__main__":
    unittest.main()
