"""[10.3] hangings, [10.4] forms of bundles, [10.5] the one hanging, [10.7] hung anew, [10.8] certificates."""

import itertools
import random
import time
import unittest
from rulertrees.errors import BadDial, BadEnd, BadHanging, BadPlaces, BadRelation, BadShape
from tests import naive
from tests import naive_trees
from tests.helpers import Case, ODD_VALUES, otherwise_values
from tests.test_families import FRAMES, ONE, OTHER, random_hanging, random_knot, whole_relations
from tests.test_relations import NO_RELATIONS
from tests.test_shapes import FIVE, FOUR, NO_SHAPES, SHAPES, SIX, SMALL, renumberings
from tests.test_splits import random_relation
from tests.test_standards import CHANGES, KNOT, NOT_WHOLE, changed_standard, standard

STAY = (1, 0, 0, 1)
PRODUCT = (0, 1, 0, 0, 0, 0, -1, 0)
FEW = ((1, 0), (2, -3), (0, 1, 1, 0), (1, 2, 2, 4))
HANGING = (((0, 1, 2, 5), (3, 4, 5)), (KNOT, PRODUCT))
OPEN = (((0, 1, 2, 5), (3, 4, 5)), ((1, 0) * 4 + (2, 0) * 4, (0, 0, 1, 0, 0, 0, 3, 0)))
NO_HANGINGS = [thing for thing in ODD_VALUES if not naive_trees.is_hanging(thing)] + [
    HANGING[::-1], list(HANGING), HANGING[:1], HANGING + (0,), (HANGING[0], HANGING[1][::-1]), (HANGING[0], (KNOT,)),
    (HANGING[0], list(HANGING[1])), (list(HANGING[0]), HANGING[1]), (HANGING[0][::-1], HANGING[1][::-1]),
    (((0, 1, 4), (2, 3, 4), ()), (PRODUCT, PRODUCT, ())), (((0, 1),), ((0, 1, 1, 0),)), (((0, 1, 2),), (KNOT,)),
    (((0, 1, 2),), PRODUCT), (((0, 1, 2),), ((0, -1, 0, 0, 0, 0, 1, 0),)), (((0, 1, 2),), ((0,) * 8,)),
    (((0, 1, 2),), (list(PRODUCT),)), (((0, 1, 2),), ((0, 1, 0, 0, 0, 0, -1, False),)), ((), ()),
    (((0, 1, 2, 3, 4, 5, 6),), ((1,) + (0,) * 127,)), (((0, 2, 1),), (PRODUCT,)), (((0, 1, 2), (0, 1, 2)), (PRODUCT,) * 2),
    # Relations of other numbers of dials, nodes with two ends, with one and with an end twice.
    (HANGING[0], (KNOT, KNOT)), (HANGING[0], (PRODUCT, PRODUCT)), (((0, 1, 3), (2, 3)), (PRODUCT, (0, 1, 1, 0))),
    (((0, 1), (0, 1, 2)), ((0, 1, 1, 0), PRODUCT)), (((0, 1, 2, 3), (3,)), (KNOT, (1, 0))), (((0, 1, 2, 2),), (KNOT,)),
    # The inner splits, (0, 1, 2) and (0, 1), do not ascend.
    (((0, 1, 6), (2, 5, 6), (3, 4, 5)), (PRODUCT,) * 3)]


def some_hangings(seed, step=9):
    chance = random.Random(seed)
    return [random_hanging(chance, frame) for many in range(3, 7) for at, frame in enumerate(FRAMES[many])
            if many < 5 or at % step == 0]


def moved_hanging(hanging, changes, at_both=True):
    """The hanging with a change for each inner dial taken at both of its nodes, or at the first one alone."""
    frame, relations = hanging
    by_dial = dict(zip(naive_trees.inner_dials(frame), changes))
    seen, found = [], []
    for node, relation in zip(frame, relations):
        told = [by_dial[end] if end in by_dial and (at_both or end not in seen) else STAY for end in node]
        seen += node
        found.append(naive.changed(relation, told))
    return (frame, tuple(found))


class HangingsTest(Case):

    def test_is_hanging(self):
        chance = random.Random(1)
        for many, frames in FRAMES.items():
            for frame in frames:
                relations = tuple(random_relation(chance, len(node)) for node in frame)
                self.gives(True, "is_hanging", (frame, relations))
        for thing in NO_HANGINGS:
            self.gives(False, "is_hanging", thing)
        for thing in otherwise_values(HANGING):
            self.gives(naive_trees.is_hanging(thing), "is_hanging", thing)
        for shape in (FIVE, SIX):
            for other in renumberings(shape):
                thing = (other, (PRODUCT,) * len(other))
                self.gives(other == naive_trees.tidy(other), "is_hanging", thing)
        for thing in NO_SHAPES:
            if not naive_trees.is_frame(thing):
                self.gives(False, "is_hanging", (thing, (PRODUCT,)))
                self.gives(False, "is_hanging", (thing, (PRODUCT, PRODUCT)))

    def test_how_many_frames(self):
        self.assertEqual([len(FRAMES[many]) for many in range(3, 7)], [1, 4, 26, 236])

    def test_relations(self):
        chance = random.Random(2)
        for many, frames in FRAMES.items():
            for frame in frames[::1 if many < 6 else 5]:
                relations = tuple(random_relation(chance, len(node), 3, 4) for node in frame)
                self.gives(naive_trees.relation_of(frame, relations), "relation_of_hanging", (frame, relations))
        self.gives(None, "relation_of_hanging", OPEN)
        for relation in (PRODUCT, KNOT, standard(6, 2)):
            frame = (tuple(range(naive_trees.count_dials(relation))),)
            self.gives(relation, "relation_of_hanging", (frame, (relation,)))

    def test_reading(self):
        chance = random.Random(3)
        found = {True: 0, False: 0, None: 0}
        for many, frames in FRAMES.items():
            for frame in frames[::1 if many < 5 else 9]:
                for zeros in (2, 20):
                    hanging = (frame, tuple(random_relation(chance, len(node), 2, zeros) for node in frame))
                    self.read(chance, hanging, found)
        self.read(chance, OPEN, found)
        self.assertGreater(min(found.values()), 0, found)

    def read(self, chance, hanging, found):
        many = naive_trees.outer(hanging[0])
        relation = naive_trees.relation_of(*hanging)
        for _ in range(20):
            places = [chance.choice(naive.SMALL_PLACES) for _ in range(many)]
            if relation is not None and chance.random() < 0.5:
                a, b = [naive.value(relation, places[:-1] + [place]) for place in ((1, 0), (0, 1))]
                if a != 0 or b != 0:
                    places[-1] = naive.short((b, -a)) if a != 0 else (1, 0)
                    if places[-1][1] < 0:
                        places[-1] = (-places[-1][0], -places[-1][1])
            expected = naive_trees.reads(hanging[0], hanging[1], places)
            self.gives(expected, "hanging_reads", hanging, tuple(places))
            found[expected if relation is not None else None] += 1

    def test_errors(self):
        for thing in NO_HANGINGS:
            self.fails(BadHanging, {"thing": thing}, "relation_of_hanging", thing)
            self.fails(BadHanging, {"thing": thing}, "hanging_reads", thing, ((1, 0),) * 5)
            self.fails(BadHanging, {"thing": thing}, "hanging_reads", thing, None)
        for hanging in (HANGING, OPEN):
            for thing in [*ODD_VALUES, ((1, 0),) * 4, ((1, 0),) * 6, [(1, 0)] * 5, ((1, 0),) * 4 + ((2, 0),),
                          ((1, 0),) * 4 + ([1, 0],), ((1, 0),) * 4 + ((1, False),)]:
                self.fails(BadPlaces, {"thing": thing}, "hanging_reads", hanging, thing)


class BundleFormTest(Case):

    def test_bundles(self):
        chance = random.Random(4)
        for many in range(3, 7):
            for s in (0, 1, -1, 2, -5):
                for at in range(3):
                    relation = changed_standard(chance, many, s) if at else standard(many, s)
                    for dial in range(many):
                        expected = naive_trees.dial_form(relation, dial, at)
                        # It is the same for all choices of dials and places.
                        self.assertEqual(naive_trees.dial_form(relation, dial, 50 + at), expected)
                        self.gives(expected, "bundle_form", relation, dial)

    def test_the_form_of_a_cube_is_shortened(self):
        cube = (2, 0, 0, 0, 0, 0, 0, 3)
        self.gives((0, 6, 0), "form_of", cube, 0)
        self.gives((0, 1, 0), "bundle_form", cube, 0)
        self.gives((1, 0, -2), "bundle_form", standard(3, 2), 1)
        self.gives((1, 0, -2), "bundle_form", standard(5, 2), 4)

    def test_others(self):
        chance = random.Random(5)
        others = [KNOT, OTHER, random_knot(chance, 5), random_knot(chance, 6), *[
            relation for relation in NOT_WHOLE if len(relation) > 4]]
        for relation in others:
            for dial in range(naive_trees.count_dials(relation)):
                self.gives(None, "bundle_form", relation, dial)

    def test_errors(self):
        for thing in [*NO_RELATIONS, *FEW]:
            self.fails(BadRelation, {"thing": thing}, "bundle_form", thing, 0)
            self.fails(BadRelation, {"thing": thing}, "bundle_form", thing, None)
        for relation in (PRODUCT, KNOT, standard(5, 1), NOT_WHOLE[3]):
            many = naive_trees.count_dials(relation)
            for dial in (-1, many, 6, True, False, None, "0", (0,), [0], 10 ** 30):
                self.fails(BadDial, {"dial": dial}, "bundle_form", relation, dial)


class JudgeHangingTest(Case):

    def check(self, relation):
        found = self.call("judge_hanging", relation)
        self.assertTrue(naive_trees.hanging_holds(relation, found), (relation, found))
        self.gives(True, "hanging_holds", relation, found)
        self.assertEqual(found[0], "hanging" if naive_trees.is_whole(relation) else "falls")
        return found

    def test_tied_relations(self):
        own = 0
        for relation, hanging in whole_relations(6, 9):
            found = self.check(relation)
            # The hanging from which it was tied is right too, if no two of its bundles make one.
            expected = naive_trees.is_right_hanging(relation, hanging)
            self.gives(expected, "hanging_holds", relation, ("hanging", hanging))
            self.assertEqual(expected, found[1][0] == hanging[0])
            own += expected
        self.assertGreater(own, 10)

    def test_other_relations(self):
        chance = random.Random(7)
        for many in range(3, 7):
            for zeros in (0, 4, 12):
                self.check(random_relation(chance, many, 3, zeros))
        self.check(random_relation(chance, 6, 20, 0))
        for relation in NOT_WHOLE:
            if len(relation) > 4:
                self.check(relation)

    def test_one_node(self):
        for relation in (PRODUCT, ONE, KNOT, standard(3, 0), standard(5, 2), standard(6, -1)):
            many = naive_trees.count_dials(relation)
            self.gives(("hanging", ((tuple(range(many)),), (relation,))), "judge_hanging", relation)

    def test_two_nodes(self):
        found = self.check(OTHER)
        self.assertEqual(found[1][0], ((0, 1, 4), (2, 3, 4)))

    def test_bundles_that_make_one(self):
        # A standard relation cut in two is hung from one bundle, and the two are not its hanging.
        relation = standard(5, 2)
        cubes = self.call("judge_shape", relation, FIVE)[1]
        self.assertEqual(naive_trees.relation_of(FIVE, cubes), relation)
        self.gives(False, "hanging_holds", relation, ("hanging", (FIVE, cubes)))
        self.gives(True, "hanging_holds", relation, ("hanging", (((0, 1, 2, 3, 4),), (relation,))))

    def test_falls(self):
        relation = tuple(a * b for a in PRODUCT for b in standard(3, 2))
        self.gives(("falls", (0, 1, 2)), "judge_hanging", relation)
        for dials in ((0, 1, 2), (3, 4, 5)):
            self.gives(True, "hanging_holds", relation, ("falls", dials))
        for dials in ((0,), (0, 1), (0, 1, 3), (), (0, 1, 2, 3, 4, 5), (2, 1, 0), [0, 1, 2], (0, 1, 2, 2), (False, 1, 2)):
            self.gives(False, "hanging_holds", relation, ("falls", dials))
        # A hanging of a relation that falls apart is none with the properties of a whole one.
        first = tuple(item for number in PRODUCT for item in (number, 0))
        second = tuple(item for number in standard(3, 2) for item in (0, number))
        for hanging in ((((0, 1, 2, 3, 4, 5),), (relation,)), (((0, 1, 2, 6), (3, 4, 5, 6)), (first, second))):
            self.gives(relation, "relation_of_hanging", hanging)
            self.gives(False, "hanging_holds", relation, ("hanging", hanging))
        self.gives(False, "hanging_holds", KNOT, ("falls", (0, 1)))

    def test_changes_of_inner_dials(self):
        chance = random.Random(8)
        one_alone = 0
        for relation, _ in whole_relations(9, 13):
            frame, relations = self.call("judge_hanging", relation)[1]
            inner = naive_trees.inner_dials(frame)
            if not inner:
                continue
            changes = [chance.choice(CHANGES[1:]) for _ in inner]
            both = moved_hanging((frame, relations), changes)
            self.gives(True, "hanging_holds", relation, ("hanging", both))
            alone = moved_hanging((frame, relations), changes, False)
            expected = naive_trees.is_right_hanging(relation, alone)
            self.gives(expected, "hanging_holds", relation, ("hanging", alone))
            one_alone += not expected
            whole = ((tuple(range(naive_trees.count_dials(relation))),), (relation,))
            self.gives(False, "hanging_holds", relation, ("hanging", whole))
        self.assertGreater(one_alone, 5)

    def test_one_thing_otherwise(self):
        chance = random.Random(10)
        five = naive_trees.relation_of(*HANGING)
        apart = tuple(a * b for a in (1, -3) for b in standard(3, 2))
        for relation in (OTHER, five, apart, KNOT, naive_trees.relation_of(*random_hanging(chance, FIVE))):
            for thing in otherwise_values(self.check(relation)):
                self.gives(naive_trees.hanging_holds(relation, thing), "hanging_holds", relation, thing)

    def test_any_value(self):
        things = list(ODD_VALUES) + NO_HANGINGS + [("hanging", thing) for thing in NO_HANGINGS] + [
            ("falls", None), ("falls", ()), ("hanging", None), ("falls",), ("hanging",), ("falls", (0,), 0)]
        for relation in (KNOT, PRODUCT, naive_trees.relation_of(*HANGING)):
            for thing in things:
                self.gives(False, "hanging_holds", relation, thing)

    def test_hangings_of(self):
        chance = random.Random(11)
        relations = [(1, 0), (0, 1, 1, 0), (1,) * 64, PRODUCT, KNOT, OTHER] + list(NOT_WHOLE)
        relations.append(naive.reordered(tuple(a * b for a in PRODUCT for b in standard(3, 2)), (3, 0, 5, 1, 4, 2)))
        relations.append(naive.reordered(tuple(a * b for a in OTHER for b in (0, 1, 1, 0)), (4, 2, 0, 1, 5, 3)))
        relations.append(tuple(a * b for a in (2, 1) for b in changed_standard(chance, 5, 2)))
        for relation in relations:
            found = self.call("hangings_of", relation)
            pieces = [(dials, piece) for dials, piece in self.call("pieces", relation) if len(dials) > 2]
            self.assertEqual([dials for dials, _ in found], [dials for dials, _ in pieces])
            self.assertIs(type(found), tuple)
            for (_, hanging), (_, piece) in zip(found, pieces):
                self.assertTrue(naive_trees.is_right_hanging(piece, hanging))
        self.gives((), "hangings_of", (0, 1, 1, 0))

    def test_errors(self):
        for thing in [*NO_RELATIONS, *FEW]:
            self.fails(BadRelation, {"thing": thing}, "judge_hanging", thing)
            self.fails(BadRelation, {"thing": thing}, "hanging_holds", thing, ("falls", (0,)))
        for thing in NO_RELATIONS:
            self.fails(BadRelation, {"thing": thing}, "hangings_of", thing)

    def test_six_dials_take_little_time(self):
        chance = random.Random(12)
        start = time.process_time()
        relations = [random_relation(chance, 6, 20, 0), changed_standard(chance, 6, 2), standard(6, -1)]
        relations += [naive_trees.relation_of(*random_hanging(chance, frame)) for frame in FRAMES[6][::40]]
        for relation in relations:
            found = self.call("judge_hanging", relation)
            self.gives(True, "hanging_holds", relation, found)
            fit = self.call("fitting", relation)
            if fit:
                self.call("rehangings", relation, fit[0], fit[-1])
        self.assertLess(time.process_time() - start, 20)


class AnewTest(Case):

    def test_hung_anew(self):
        for shape in [FOUR, FIVE, SIX] + SHAPES[6][::9] + list(renumberings(FIVE)) + list(renumberings(SIX))[::3]:
            for dial, one, other in naive_trees.exchanges(shape):
                expected = naive_trees.exchanged(shape, dial, one, other)
                self.gives(expected, "hung_anew", shape, dial, one, other)
                self.assertIn(expected, SHAPES[naive_trees.outer(shape)])
        self.gives(((0, 3, 4), (1, 2, 4)), "hung_anew", ((0, 1, 4), (2, 3, 4)), 4, 1, 3)
        self.gives(((0, 2, 4), (1, 3, 4)), "hung_anew", ((2, 3, 4), (0, 1, 4)), 4, 3, 0)

    def test_errors(self):
        for thing in NO_SHAPES:
            self.fails(BadShape, {"thing": thing}, "hung_anew", thing, 4, 0, 2)
            self.fails(BadShape, {"thing": thing}, "hung_anew", thing, None, None, None)
        for shape in (SMALL, FIVE, SIX[::-1]):
            inner = naive_trees.inner_dials(shape)
            for dial in list(range(-1, 10)) + [True, None, (5,), "5", 10 ** 30]:
                if isinstance(dial, int) and not isinstance(dial, bool) and dial in inner:
                    self.ends(shape, dial)
                else:
                    self.fails(BadDial, {"dial": dial}, "hung_anew", shape, dial, None, None)
                    self.fails(BadDial, {"dial": dial}, "hung_anew", shape, dial, shape[0][0], shape[-1][0])

    def ends(self, shape, dial):
        first, second = [node for node in shape if dial in node]
        good, other_good = [[end for end in node if end != dial] for node in (first, second)]
        things = list(range(-1, 10)) + [True, False, None, "0", (0,), [0], 10 ** 30]
        for thing in things:
            number = isinstance(thing, int) and not isinstance(thing, bool)
            if not number or thing not in good:
                self.fails(BadEnd, {"thing": thing}, "hung_anew", shape, dial, thing, other_good[0])
                self.fails(BadEnd, {"thing": thing}, "hung_anew", shape, dial, thing, None)
            if not number or thing not in other_good:
                self.fails(BadEnd, {"thing": thing}, "hung_anew", shape, dial, good[1], thing)

    def test_which_shapes_fit_that_are_hung_anew(self):
        chance = random.Random(13)
        found = {True: 0, False: 0}
        for relation, _ in whole_relations(14, 17):
            many = naive_trees.count_dials(relation)
            fit = [shape for shape in SHAPES[many] if naive_trees.fits(relation, shape)]
            if many < 4 or not fit:
                continue
            shape = chance.choice(fit)
            cubes = self.call("judge_shape", relation, shape)[1]
            for dial, one, other in naive_trees.exchanges(shape):
                forms = [naive.short(naive.form(cube, node.index(dial))) for node, cube in zip(shape, cubes) if dial in node]
                after = self.call("hung_anew", shape, dial, one, other)
                self.assertEqual(naive_trees.fits(relation, after), forms[0] == forms[1])
                found[forms[0] == forms[1]] += 1
        self.assertGreater(min(found.values()), 10)

    def check_way(self, relation, one, other):
        found = self.call("rehangings", relation, one, other)
        self.assertIs(type(found), tuple)
        self.assertEqual((found[0], found[-1]), (one, other))
        for shape in found:
            self.assertEqual(naive_trees.tidy(shape), shape)
            self.assertTrue(naive_trees.fits(relation, shape))
        for here, there in zip(found, found[1:]):
            self.assertIn(there, [naive_trees.exchanged(here, *told) for told in naive_trees.exchanges(here)])

    def test_ways_between_shapes_that_fit(self):
        chance = random.Random(15)
        relations = [relation for relation, _ in whole_relations(16, 15)]
        for relation in relations + [changed_standard(chance, 6, 0), standard(5, 1), standard(4, -1), PRODUCT]:
            fit = self.call("fitting", relation)
            pairs = list(itertools.product(fit, repeat=2))
            for one, other in pairs if len(pairs) < 12 else chance.sample(pairs, 5):
                self.check_way(relation, one, other)
        self.gives((SMALL,), "rehangings", PRODUCT, SMALL, SMALL)

    def test_wrong_ways(self):
        for thing in [*NO_RELATIONS, *NOT_WHOLE]:
            self.fails(BadRelation, {"thing": thing}, "rehangings", thing, SMALL, SMALL)
            self.fails(BadRelation, {"thing": thing}, "rehangings", thing, None, None)
        fit = ((0, 1, 4), (2, 3, 4))
        others = [FOUR, ((0, 3, 4), (1, 2, 4)), fit[::-1], SMALL, FIVE, SIX, list(fit)]
        for thing in NO_SHAPES + others:
            self.fails(BadShape, {"thing": thing}, "rehangings", OTHER, thing, fit)
            self.fails(BadShape, {"thing": thing}, "rehangings", OTHER, thing, None)
            self.fails(BadShape, {"thing": thing}, "rehangings", OTHER, fit, thing)
        # For Python this equals a shape that fits.
        equal = ((False, True, 4), (2, 3, 4))
        self.fails(BadShape, {"thing": equal}, "rehangings", OTHER, equal, fit)
        self.fails(BadShape, {"thing": equal}, "rehangings", OTHER, fit, equal)
        self.gives((fit,), "rehangings", OTHER, fit, fit)
        for other in renumberings(FIVE):
            if other != FIVE:
                self.fails(BadShape, {"thing": other}, "rehangings", standard(5, 2), FIVE, other)
        self.fails(BadShape, {"thing": fit}, "rehangings", KNOT, fit, fit)


if __name__ == "__main__":
    unittest.main()
