"""[8.4] all splits, standard relations."""

import itertools
import random
import time
import unittest
from rulertrees.errors import BadRelation
from tests import naive
from tests import naive_trees
from tests.helpers import Case
from tests.test_relations import NO_RELATIONS

CHANGES = ((1, 0, 0, 1), (0, 1, 1, 0), (-2, 1, 1, 0), (1, 3, 0, 1), (1, -2, 2, 0), (1, 0, 1, -1), (2, 1, 1, 1))
KNOT = (0, 0, 0, 1, 0, 1, 1, 0, 0, 1, 1, 0, 1, 0, 0, 0)
NUMBERS = (0, 1, -1, 2, -2, 3, 5, -6, 997, -998)
# Relations that fall apart, or have fewer than three dials.
NOT_WHOLE = ((1, 0), (0, 1, 1, 0), (1, 2, 2, 4), (1, 0, 0, 0, 0, 0, 0, 0), (0, 1, -1, 0, 0, 0, 0, 0),
             (1, 2, 3, 6, 3, 4, 9, 12), (0, 0, 1, 0, 0, 0, 0, 1), (1,) * 16, (1,) + (0,) * 63,
             tuple(a * b for a in (0, 1, 1, 0) for b in (0, 1, 1, 0)),
             tuple(a * b for a in (0, 1, 1, 0, 1, 0, 0, 1) for b in (0, 1, 1, 0, 1, 0, 0, 2)),
             tuple(a * b for a in (1, -3) for b in (0, 1, 1, 0, 1, 0, 0, 2)))


def standard(many, s):
    """The coefficients of the root of s, each row of bits choosing a 1 or a root."""
    return tuple(s ** (sum(bits) // 2) if sum(bits) % 2 else 0 for bits in naive.bits_of(many))


def random_changes(chance, many):
    return tuple(chance.choice(CHANGES) for _ in range(many))


def changed_standard(chance, many, s):
    return naive.changed(standard(many, s), random_changes(chance, many))


class StandardRelationTest(Case):

    def test_standard_relations(self):
        for many in range(1, 7):
            for s in (0, 1, -1, 2, -3, 5, 997, -998):
                found = self.call("standard_relation", many, s)
                self.assertEqual(found, standard(many, s))
                self.assertEqual(naive.short(found), found)
                if many == 3:
                    self.gives(found, "standard", s)

    def test_the_value_is_the_coefficient_of_the_root(self):
        chance = random.Random(1)
        for many in range(1, 7):
            for s in (0, 1, -1, 7, -30):
                relation = self.call("standard_relation", many, s)
                for _ in range(10):
                    places = [(chance.randrange(-9, 9), chance.randrange(1, 9)) for _ in range(many)]
                    plain, rooted = 1, 0
                    for a, b in places:
                        plain, rooted = plain * a + s * rooted * b, plain * b + rooted * a
                    self.assertEqual(naive.value(relation, places), rooted)

    def test_examples(self):
        self.gives((0, 1, 1, 0), "standard_relation", 2, -1)
        self.gives((0, 1, 1, 0, 1, 0, 0, 0, 1, 0, 0, 0, 0, 0, 0, 0), "standard_relation", 4, 0)


class StandardOfTest(Case):

    def check(self, relation, s):
        self.gives(s, "standard_of", relation)
        found = self.call("to_standard", relation)
        many = naive_trees.count_dials(relation)
        self.assertIs(type(found), tuple)
        self.assertEqual(len(found), many)
        self.assertTrue(all(naive.is_change(change) for change in found))
        self.assertEqual(naive.changed(relation, found), standard(many, s))
        self.assertTrue(all(abs(number) < 10 ** 4000 for change in found for number in change))

    def test_changed_standard_relations(self):
        chance = random.Random(2)
        for many in range(3, 7):
            for s in NUMBERS:
                self.check(standard(many, s), s)
                for _ in range(5):
                    self.check(changed_standard(chance, many, s), s)

    def test_changed_at_some_dials(self):
        for many in range(3, 7):
            for s in (0, 1, -1, 2):
                for dials in itertools.combinations(range(many), 2):
                    changes = [(1, 0, 0, 1)] * many
                    changes[dials[0]], changes[dials[1]] = (2, 1, 1, 1), (0, 3, -1, 2)
                    self.check(naive.changed(standard(many, s), changes), s)

    def test_places_at_which_no_whole_cube_is_left(self):
        # For a square s, at two places of a dial the relation of the others falls apart; here they are tried first.
        for many in range(4, 7):
            for s in (0, 1):
                for change in ((1, 1, 1, -1), (1, 1, -1, 1), (1, 0, 0, 1), (0, 1, 1, 0), (1, 2, 1, 0), (0, 1, 1, -1)):
                    relation = naive.changed(standard(many, s), [change] * many)
                    self.check(relation, s)

    def test_all_whole_cubes(self):
        for at, cube in enumerate(itertools.product((-1, 0, 1), repeat=8)):
            if at % 17 == 0 and any(cube) and naive.short(cube) == cube and naive_trees.is_whole(cube):
                sort = naive.sort(cube)
                self.check(cube, 0 if sort == ("tangent",) else sort[1])

    def test_splits_of_a_higher_rank(self):
        chance = random.Random(3)
        others = [KNOT, (0, 0, 0, 1, 0, 0, 0, 0, 0, 0, 0, 0, 1, 0, 0, -1)]
        for many in range(4, 7):
            others += [naive.short([chance.randrange(-2, 3) for _ in range(2 ** many - 1)] + [1]) for _ in range(4)]
        for relation in others:
            self.assertTrue(naive_trees.is_whole(relation))
            if naive_trees.is_standard(relation):
                continue
            self.gives(None, "standard_of", relation)
            self.gives(None, "to_standard", relation)

    def test_just_one_split_of_a_higher_rank(self):
        # Two bundles of unlike forms at their common dial: all shapes but some fit.
        tree = (((0, 1, 4), (2, 3, 4)), ((0, 1, 1, 0, 1, 0, 0, 1), (0, 1, 1, 0, 1, 0, 0, 2)))
        relation = naive_trees.relation_of(*tree)
        self.assertEqual([naive_trees.rank(relation, split) for split in ((0, 1), (0, 2), (0, 3))].count(2), 1)
        self.gives(None, "standard_of", relation)
        self.gives(None, "to_standard", relation)

    def test_no_relation_is_alike_to_two(self):
        for many in range(3, 7):
            for s in NUMBERS:
                self.gives(s, "standard_of", self.call("standard_relation", many, s))

    def test_great_items_take_little_time(self):
        chance = random.Random(4)
        start = time.process_time()
        found = 0
        while found < 12:
            changes = [tuple(chance.randrange(-3, 4) for _ in range(4)) for _ in range(6)]
            if all(naive.is_change(change) for change in changes):
                s = chance.choice((0, 1, -1, 2, -3, 5, 7))
                relation = naive.changed(standard(6, s), changes)
                if max(map(abs, relation)) <= 1000:
                    self.gives(s, "standard_of", relation)
                    found += 1
        cube = (1000, 999, -998, 997, 991, -983, 977, 971)
        number = naive.discriminant(naive.form(cube, 0))
        self.assertTrue(naive_trees.are_class(number, self.call("standard_of", cube)))
        self.assertLess(time.process_time() - start, 20)

    def test_examples(self):
        self.gives(1, "standard_of", (0, 0, 0, 1, 0, 0, 0, 0, 0, 0, 0, 0, -1, 0, 0, 0))

    def test_errors(self):
        for name in ("standard_of", "to_standard"):
            for thing in [*NO_RELATIONS, *NOT_WHOLE]:
                self.fails(BadRelation, {"thing": thing}, name, thing)


if __name__ == "__main__":
    unittest.main()
