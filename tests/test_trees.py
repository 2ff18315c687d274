"""[9.3] trees, [9.4] reading, [9.5] which shapes fit, [9.6] alike trees, [9.7] relations that all trees read."""

import itertools
import random
import time
import unittest
from rulertrees.errors import BadRelation, BadShape, BadTree, Loose, OtherShapes
from tests import naive
from tests import naive_trees
from tests.helpers import Case, ODD_VALUES, exact, otherwise_values
from tests.test_relations import NO_RELATIONS
from tests.test_shapes import FIVE, FOUR, NO_SHAPES, SHAPES, SIX, SMALL, renumberings
from tests.test_standards import KNOT, changed_standard, standard
from tests.test_splits import random_relation

STAY = (1, 0, 0, 1)
PRODUCT = (0, 1, 0, 0, 0, 0, -1, 0)
TREE = (((0, 1, 4), (2, 3, 4)), (PRODUCT, (0, 1, 0, 0, 0, 0, 1, -1)))
CHANGES = ((0, 1, 1, 0), (-6, 3, 3, 0), (1, 5, 0, 1), (4, -2, 2, 8), (1, 0, 1, -1), (2, 1, 1, 1), (0, -3, 5, 2))
# At the inner dial both cubes hold at one place alone, whatever their other dials are: the tree is open.
OPEN = (FOUR, ((0, 1, 0, 0, 0, 0, 0, 0), (0, 1, 0, 2, 0, 1, 0, 3)))
FEW = ((1, 0), (2, -3), (0, 1, 1, 0), (1, 2, 2, 4))


def random_cube(chance, bound=3):
    return naive.short([chance.randrange(-bound, bound + 1) for _ in range(7)] + [chance.randrange(1, bound + 1)])


def random_tree(chance, shape, bound=3):
    return (shape, tuple(random_cube(chance, bound) for _ in shape))


def some_shapes(step=8):
    return [SMALL, FOUR, FIVE, SIX, SIX[::-1], ((2, 4, 6), (0, 3, 5), (1, 5, 6))] + [
        shape for many in (4, 5, 6) for shape in SHAPES[many][::step]]


def some_trees(seed, step=8):
    chance = random.Random(seed)
    return [random_tree(chance, shape) for shape in some_shapes(step)]


def closed_trees(seed, step=8):
    return [tree for tree in some_trees(seed, step) if naive_trees.relation_of(*tree) is not None]


def moved_tree(tree, changes):
    """The tree with a change for each inner dial taken at both of its nodes."""
    shape, cubes = tree
    by_dial = dict(zip(naive_trees.inner_dials(shape), changes))
    return (shape, tuple(
        naive.changed(cube, [by_dial.get(end, STAY) for end in node]) for node, cube in zip(shape, cubes)))


def is_tree(thing):
    if type(thing) is not tuple or len(thing) != 2 or not naive_trees.is_shape(thing[0]):
        return False
    if type(thing[1]) is not tuple or len(thing[1]) != len(thing[0]):
        return False
    return all(naive.is_ints(cube, 8) and naive.is_short(cube) for cube in thing[1])


NO_TREES = [thing for thing in ODD_VALUES if not is_tree(thing)] + [
    (SMALL, ()), (SMALL, (PRODUCT, PRODUCT)), (SMALL, PRODUCT), (SMALL, [PRODUCT]), [SMALL, (PRODUCT,)], (SMALL,),
    (SMALL, (PRODUCT,), 0), (SMALL, ((0, -1, 0, 0, 0, 0, 1, 0),)), (SMALL, ((0, 1, 1, 0),)), (SMALL, (list(PRODUCT),)),
    ((PRODUCT,), SMALL), (FOUR, (PRODUCT,)), (FOUR, (PRODUCT, (0, 1, 0, 0, 0, 0, -1, False))), (PRODUCT, PRODUCT),
    (FOUR, (PRODUCT, (0,) * 8)), (((0, 1, 2), (0, 1, 2)), (PRODUCT, PRODUCT)), (((0, 1, 2, 3),), (KNOT,)),
    (list(FOUR), (PRODUCT, PRODUCT)), (((1, 0, 2),), (PRODUCT,))]


class TreesTest(Case):

    def test_is_tree(self):
        for tree in some_trees(1) + [TREE, OPEN]:
            self.gives(True, "is_tree", tree)
        for thing in NO_TREES + [(thing, (PRODUCT,)) for thing in NO_SHAPES]:
            self.assertFalse(is_tree(thing), thing)
            self.gives(False, "is_tree", thing)
        for thing in otherwise_values(TREE):
            self.gives(is_tree(thing), "is_tree", thing)

    def test_relations(self):
        for tree in some_trees(2, 3) + [TREE, OPEN]:
            self.gives(naive_trees.relation_of(*tree), "relation_of", tree)
        self.gives(PRODUCT, "relation_of", (SMALL, (PRODUCT,)))

    def test_numbered_otherwise(self):
        for tree in closed_trees(3):
            shape, cubes = tree
            expected = naive_trees.relation_of(shape, cubes)
            inner = naive_trees.inner_dials(shape)
            for order in list(itertools.permutations(inner))[1:4]:
                numbers = dict(zip(inner, order))
                nodes = []
                for node, cube in zip(shape, cubes):
                    fresh = [numbers.get(end, end) for end in node]
                    places = tuple(fresh.index(end) for end in sorted(fresh))
                    nodes.append((tuple(sorted(fresh)), naive.reordered(cube, places)))
                for ordered in (nodes, nodes[::-1]):
                    other = (tuple(node for node, _ in ordered), tuple(cube for _, cube in ordered))
                    self.gives(expected, "relation_of", other)

    def test_a_change_at_both_nodes(self):
        chance = random.Random(4)
        for tree in closed_trees(5):
            changes = [chance.choice(CHANGES) for _ in naive_trees.inner_dials(tree[0])]
            self.gives(naive_trees.relation_of(*tree), "relation_of", moved_tree(tree, changes))

    def test_open_trees(self):
        # A cube that holds with every place of its inner dial at no places of the others keeps the tree closed.
        part = (0, 0, 0, 0, 0, 1, 0, 0)
        for shape, cubes in (OPEN, (FOUR, ((0, 1, 0, 3, 0, 2, 0, 6), (0, 1, 0, 0, 0, 0, 0, 0))),
                             (SIX, ((0, 1, 0, 0, 0, 0, 0, 0), PRODUCT, (0, 1, 0, 2, 0, 0, 0, 0), (1, 0, 0, 0, 0, 0, 0, 0))),
                             (FOUR, (part, part))):
            expected = naive_trees.relation_of(shape, cubes)
            self.gives(expected, "relation_of", (shape, cubes))
            if expected is None:
                for name in ("judge_trees", "trees_hold"):
                    rest = () if name == "judge_trees" else (None,)
                    self.fails(BadTree, {"thing": (shape, cubes)}, name, (shape, cubes), TREE, *rest)
        self.gives(None, "relation_of", OPEN)

    def test_reading_is_the_relation(self):
        chance = random.Random(6)
        open_trees = 0
        for tree in some_trees(7) + some_trees(8) + [TREE, OPEN]:
            many = naive_trees.outer(tree[0])
            relation = self.call("relation_of", tree)
            open_trees += relation is None
            for _ in range(60):
                places = [chance.choice(naive.SMALL_PLACES) for _ in range(many)]
                if relation is not None and chance.random() < 0.5:
                    # The last place at which the relation holds.
                    a, b = [naive.value(relation, places[:-1] + [place]) for place in ((1, 0), (0, 1))]
                    if a != 0 or b != 0:
                        places[-1] = (b, -a)
                expected = relation is None or naive.value(relation, places) == 0
                self.assertEqual(naive_trees.reads(tree[0], tree[1], places), expected)
        self.assertGreater(open_trees, 0)

    def test_examples(self):
        self.gives((0, 0, 0, 1, 0, 0, 0, 0, 0, 0, 0, 0, 1, 0, 0, -1), "relation_of", TREE)

    def test_errors(self):
        for thing in NO_TREES:
            self.fails(BadTree, {"thing": thing}, "relation_of", thing)


class JudgeShapeTest(Case):

    def check(self, relation, shape):
        found = self.call("judge_shape", relation, shape)
        self.assertTrue(naive_trees.shape_holds(relation, shape, found), (relation, shape, found))
        self.gives(True, "shape_holds", relation, shape, found)
        self.assertEqual(found[0], "cubes" if naive_trees.fits(relation, shape) else "inner")
        return found[0]

    def test_relations_of_trees(self):
        chance = random.Random(9)
        kinds = {}
        for tree in closed_trees(10, 4):
            relation = naive_trees.relation_of(*tree)
            self.assertEqual(self.check(relation, tree[0]), "cubes")
            many = naive_trees.outer(tree[0])
            for shape in [SHAPES[many][0], chance.choice(SHAPES[many]), next(iter(renumberings(tree[0])))]:
                kinds[self.check(relation, shape)] = True
        self.assertEqual(sorted(kinds), ["cubes", "inner"])

    def test_other_relations(self):
        chance = random.Random(11)
        for many in range(3, 7):
            for zeros in (0, 3, 12):
                relation = random_relation(chance, many, 3, zeros)
                for _ in range(4):
                    self.check(relation, chance.choice(SHAPES[many]))
        for relation in (KNOT, random_relation(chance, 6, 1000, 0)):
            for shape in SHAPES[naive_trees.count_dials(relation)][::20]:
                self.assertEqual(self.check(relation, shape), "inner")

    def test_relations_that_fall_apart(self):
        chance = random.Random(12)
        pieces = ((1, -3), (0, 1, 1, 0), PRODUCT, standard(4, 2), KNOT)
        for sizes in ((0, 0, 0), (0, 1), (1, 1), (0, 2), (0, 0, 1), (2, 1), (2, 2), (0, 3), (1, 3), (0, 4), (0, 0, 4)):
            relation = (1,)
            for at in sizes:
                relation = tuple(a * b for a in relation for b in pieces[at])
            many = naive_trees.count_dials(relation)
            for _ in range(6):
                order = chance.sample(range(many), many)
                self.check(naive.reordered(relation, order), chance.choice(SHAPES[many]))

    def test_shapes_numbered_otherwise(self):
        relation = naive_trees.relation_of(*random_tree(random.Random(13), SIX))
        for shape in renumberings(SIX):
            self.assertEqual(self.check(relation, shape), "cubes")

    def test_fitting(self):
        chance = random.Random(14)
        relations = [naive_trees.relation_of(*tree) for tree in closed_trees(15, 20)]
        relations += [KNOT, standard(5, 3), changed_standard(chance, 6, -1), (1,) + (0,) * 31, PRODUCT]
        relations += [random_relation(chance, many, 2, 20) for many in (3, 4, 5, 6) for _ in range(4)]
        for relation in relations:
            many = naive_trees.count_dials(relation)
            low = {split for split in naive_trees.splits_of(many) if naive_trees.rank(relation, split) <= 2}
            expected = tuple(shape for shape in SHAPES[many] if low.issuperset(naive_trees.inner_splits(shape)))
            self.gives(expected, "fitting", relation)

    def test_all_shapes_fit_what_is_alike_to_a_standard_relation(self):
        chance = random.Random(16)
        for many in range(3, 7):
            for s in (0, 1, -2):
                self.gives(tuple(SHAPES[many]), "fitting", changed_standard(chance, many, s))
        for tree in closed_trees(17, 30):
            relation = naive_trees.relation_of(*tree)
            if naive_trees.is_whole(relation):
                many = naive_trees.count_dials(relation)
                self.assertEqual(self.call("fitting", relation) == tuple(SHAPES[many]), naive_trees.is_standard(relation))

    def test_one_thing_otherwise(self):
        for relation, shape in ((naive_trees.relation_of(*TREE), TREE[0]), (naive_trees.relation_of(*TREE), FOUR),
                                (KNOT, FOUR), (PRODUCT, SMALL), (standard(5, 2), FIVE)):
            for thing in otherwise_values(self.call("judge_shape", relation, shape)):
                self.gives(naive_trees.shape_holds(relation, shape, thing), "shape_holds", relation, shape, thing)

    def test_certificates_of_others(self):
        chance = random.Random(18)
        for tree in closed_trees(19, 20):
            relation, shape = naive_trees.relation_of(*tree), tree[0]
            inner = naive_trees.inner_dials(shape)
            self.gives(True, "shape_holds", relation, shape, ("cubes", tree[1]))
            moved = moved_tree(tree, [chance.choice(CHANGES) for _ in inner])
            self.gives(True, "shape_holds", relation, shape, ("cubes", moved[1]))
            other = ("cubes", moved_tree(tree, [(2, 1, 1, 1)] * len(inner))[1][:1] + moved[1][1:])
            self.gives(naive_trees.shape_holds(relation, shape, other), "shape_holds", relation, shape, other)
        relation = random_relation(chance, 5, 3, 0)
        for dial in range(4, 9):
            for rows in ((0, 1, 2), (1, 2, 3), (0, 1, 3), (1, 0, 2), (5, 6, 7)):
                for columns in ((0, 1, 2), (2, 5, 7), (0, 1, 3), (0, 0, 1)):
                    thing = ("inner", dial, rows, columns)
                    self.gives(naive_trees.shape_holds(relation, FIVE, thing), "shape_holds", relation, FIVE, thing)

    def test_any_value(self):
        for thing in ODD_VALUES + (("cubes", None), ("cubes", ()), ("inner", 4, None, None), ("inner", None, (), ()),
                                   ("inner", (4,), (0, 1, 2), (0, 1, 2)), ("inner", [4], (0, 1, 2), (0, 1, 2))):
            self.gives(False, "shape_holds", KNOT, FOUR, thing)
            self.gives(False, "shape_holds", naive_trees.relation_of(*TREE), TREE[0], thing)

    def test_examples(self):
        relation = naive_trees.relation_of(*TREE)
        self.gives((((0, 1, 4), (2, 3, 4)),), "fitting", relation)
        self.gives(tuple(SHAPES[4]), "fitting", (0, 0, 0, 1, 0, 0, 0, 0, 0, 0, 0, 0, -1, 0, 0, 0))

    def test_errors(self):
        for thing in [*NO_RELATIONS, *FEW]:
            self.fails(BadRelation, {"thing": thing}, "fitting", thing)
            for shape in (SMALL, "no shape"):
                self.fails(BadRelation, {"thing": thing}, "judge_shape", thing, shape)
                self.fails(BadRelation, {"thing": thing}, "shape_holds", thing, shape, None)
        for relation, shapes in ((PRODUCT, (FOUR, FIVE, SIX)), (KNOT, (SMALL, FIVE, SIX)), (standard(6, 1), (FIVE,))):
            for thing in [*NO_SHAPES, *shapes]:
                self.fails(BadShape, {"thing": thing}, "judge_shape", relation, thing)
                self.fails(BadShape, {"thing": thing}, "shape_holds", relation, thing, None)

    def test_little_time(self):
        chance = random.Random(20)
        start = time.process_time()
        for shape in SHAPES[6][::15]:
            relation = naive_trees.relation_of(*random_tree(chance, shape, 100))
            self.assertEqual(self.call("judge_shape", relation, shape)[0], "cubes")
            self.assertIn(shape, self.call("fitting", relation))
        self.assertLess(time.process_time() - start, 20)


class JudgeTreesTest(Case):

    def check(self, one, other):
        found = self.call("judge_trees", one, other)
        self.assertTrue(naive_trees.trees_hold(one, other, found), (one, other, found))
        self.gives(True, "trees_hold", one, other, found)
        equal = naive_trees.relation_of(*one) == naive_trees.relation_of(*other)
        self.assertEqual(found[0], "alike" if equal else "relations")

    def tight(self, tree):
        relation = naive_trees.relation_of(*tree)
        return all(naive_trees.rank(relation, split) == 2 for split in naive_trees.inner_splits(tree[0]))

    def test_alike_trees(self):
        chance = random.Random(21)
        found = 0
        for tree in closed_trees(22, 4):
            if self.tight(tree):
                found += 1
                for _ in range(2):
                    self.check(tree, moved_tree(tree, [chance.choice(CHANGES) for _ in naive_trees.inner_dials(tree[0])]))
                other = (tree[0], self.call("judge_shape", naive_trees.relation_of(*tree), tree[0])[1])
                self.check(tree, other)
                self.check(other, tree)
                self.check(tree, tree)
        self.assertGreater(found, 20)

    def test_other_relations(self):
        chance = random.Random(23)
        for tree in closed_trees(24):
            other = random_tree(chance, tree[0])
            if naive_trees.relation_of(*other) not in (None, naive_trees.relation_of(*tree)):
                self.check(tree, other)
                thing = ("relations", naive_trees.relation_of(*other), naive_trees.relation_of(*tree))
                self.gives(False, "trees_hold", tree, other, thing)
                self.gives(True, "trees_hold", other, tree, thing)
            thing = ("relations", naive_trees.relation_of(*tree), naive_trees.relation_of(*tree))
            self.gives(False, "trees_hold", tree, tree, thing)

    def test_multiples_of_changes(self):
        chance = random.Random(25)
        for tree in closed_trees(26, 20):
            if not self.tight(tree):
                continue
            changes = [chance.choice(CHANGES) for _ in naive_trees.inner_dials(tree[0])]
            other = moved_tree(tree, changes)
            for factors in ((1, 1, 1), (-1, 2, -3), (10 ** 30, 1, 7)):
                told = tuple(tuple(factor * number for number in change) for factor, change in zip(factors, changes))
                self.gives(True, "trees_hold", other, tree, ("alike", told))
                thing = ("alike", told[::-1])
                self.gives(naive_trees.trees_hold(other, tree, thing), "trees_hold", other, tree, thing)
                thing = ("alike", told)
                self.gives(naive_trees.trees_hold(tree, other, thing), "trees_hold", tree, other, thing)

    def test_one_node(self):
        self.gives(("alike", ()), "judge_trees", (SMALL, (PRODUCT,)), (SMALL, (PRODUCT,)))
        self.check((SMALL, (PRODUCT,)), (SMALL, (standard(3, 1),)))
        self.gives(False, "trees_hold", (SMALL, (PRODUCT,)), (SMALL, (standard(3, 1),)), ("alike", ()))

    def test_one_thing_otherwise(self):
        chance = random.Random(27)
        for tree in [TREE, random_tree(chance, FIVE)]:
            inner = naive_trees.inner_dials(tree[0])
            for other in (moved_tree(tree, CHANGES[:len(inner)]), random_tree(chance, tree[0])):
                for thing in otherwise_values(self.call("judge_trees", tree, other)):
                    self.gives(naive_trees.trees_hold(tree, other, thing), "trees_hold", tree, other, thing)
        for thing in ODD_VALUES:
            expected = naive_trees.trees_hold(TREE, TREE, thing)
            self.assertFalse(expected)
            self.gives(expected, "trees_hold", TREE, TREE, thing)

    def test_loose_trees(self):
        chance = random.Random(28)
        # The relation is a product, so it falls apart at the inner dial.
        part = (0, 1, 0, 2, 0, 1, 0, 2)
        for tree in ((FOUR, (part, PRODUCT)), (FOUR, (standard(3, 0), (1, 0, 0, 0, 3, 0, 0, 0)))):
            relation = naive_trees.relation_of(*tree)
            self.assertIsNotNone(relation)
            self.assertFalse(self.tight(tree))
            self.fails(Loose, {}, "judge_trees", tree, tree)
            moved = moved_tree(tree, [(2, 1, 1, 1)])
            self.fails(Loose, {}, "judge_trees", tree, moved)
            self.gives(True, "trees_hold", moved, tree, ("alike", ((2, 1, 1, 1),)))
            self.gives(True, "trees_hold", tree, tree, ("alike", (STAY,)))
            self.gives(False, "trees_hold", tree, tree, ("relations", relation, relation))
            other = (FOUR, self.call("judge_shape", relation, FOUR)[1])
            self.fails(Loose, {}, "judge_trees", tree, other)
            # An unlike relation is told even if a split has another rank.
            self.check(tree, random_tree(chance, FOUR))

    def test_errors(self):
        good = (SMALL, (PRODUCT,))
        for thing in NO_TREES + [OPEN]:
            for other in (good, TREE, OPEN, None):
                self.fails(BadTree, {"thing": thing}, "judge_trees", thing, other)
                self.fails(BadTree, {"thing": thing}, "trees_hold", thing, other, ("alike", ()))
            for one in (good, TREE):
                self.fails(BadTree, {"thing": thing}, "judge_trees", one, thing)
                self.fails(BadTree, {"thing": thing}, "trees_hold", one, thing, ("alike", ()))
        turned = (TREE[0][::-1], TREE[1][::-1])
        for other in (good, turned, random_tree(random.Random(29), FIVE)):
            self.assertFalse(exact(TREE[0], other[0]))
            self.fails(OtherShapes, {}, "judge_trees", TREE, other)
            self.fails(OtherShapes, {}, "trees_hold", TREE, other, None)


if __name__ == "__main__":
    unittest.main()
