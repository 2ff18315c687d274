"""[14.5] renamed grids."""

import itertools
import random
import unittest
from rulertrees.errors import BadGrid, OtherSizes
from tests import naive_grids
from tests.helpers import Case, ODD_VALUES, otherwise_values
from tests.naive_grids import ORDERS
from tests.test_grids import NO_GRIDS, OPEN, SIX, THREE, TWO, shuffled


def closed_grids(seed):
    chance = random.Random(seed)
    found = [((0,),), TWO, THREE, SIX]
    for orders in ORDERS:
        standard = naive_grids.standard_grid(orders)
        found += [standard, shuffled(chance, standard), shuffled(chance, standard)]
    return found


class RenamingTest(Case):

    def test_judged_grids(self):
        seen = {"renamed": 0, "apart": 0}
        for one, other in itertools.product(closed_grids(1), repeat=2):
            if len(one) != len(other):
                continue
            found = self.call("judge_renamed", one, other)
            self.assertTrue(naive_grids.renamed_holds(one, other, found), (one, other, found))
            self.gives(True, "renamed_holds", one, other, found)
            same = naive_grids.orders_of(one) == naive_grids.orders_of(other)
            self.assertEqual(found[0], "renamed" if same else "apart")
            seen[found[0]] += 1
        self.assertGreater(min(seen.values()), 50)

    def test_all_lines_of_small_grids(self):
        chance = random.Random(2)
        for grid in (TWO, THREE, naive_grids.standard_grid((2, 2))):
            other = shuffled(chance, grid)
            lines = list(itertools.permutations(range(len(grid))))
            right = 0
            for told in itertools.product(lines, repeat=3):
                thing = ("renamed", *told)
                if len(grid) < 4 or chance.random() < 0.1:
                    expected = naive_grids.renamed_grid(grid, *told) == other
                    self.gives(expected, "renamed_holds", grid, other, thing)
                    right += expected
            self.assertGreater(right, 0)

    def test_nothing_of_the_other_kind(self):
        four, twos = naive_grids.standard_grid((4,)), naive_grids.standard_grid((2, 2))
        for thing in (("apart", (4,), (4,)), ("apart", (2, 2), (4,)), ("apart", (2, 2), (2, 2)), ("apart", (4,), (2, 2))):
            self.gives(thing == ("apart", (4,), (2, 2)), "renamed_holds", four, twos, thing)
            self.gives(False, "renamed_holds", four, four, thing)
        for lines in itertools.product(list(itertools.permutations(range(4)))[::5], repeat=3):
            self.gives(False, "renamed_holds", four, twos, ("renamed", *lines))

    def test_one_thing_otherwise(self):
        chance = random.Random(3)
        for one, other in ((((0,),), ((0,),)), (TWO, TWO), (THREE, shuffled(chance, THREE)),
                           (naive_grids.standard_grid((4,)), naive_grids.standard_grid((2, 2)))):
            for thing in otherwise_values(self.call("judge_renamed", one, other)):
                self.gives(naive_grids.renamed_holds(one, other, thing), "renamed_holds", one, other, thing)

    def test_any_value(self):
        for thing in ODD_VALUES + (("renamed", (), (), ()), ("renamed", None, None, None), ("apart", (), ()),
                                   ("apart", None, None), ("renamed", [0, 1], [0, 1], [0, 1])):
            self.gives(False, "renamed_holds", TWO, TWO, thing)
            self.gives(False, "renamed_holds", ((0,),), ((0,),), thing)

    def test_examples(self):
        self.gives(True, "renamed_holds", TWO, ((1, 0), (0, 1)), ("renamed", (0, 1), (0, 1), (1, 0)))
        self.gives(("apart", (4,), (2, 2)), "judge_renamed",
                   naive_grids.standard_grid((4,)), naive_grids.standard_grid((2, 2)))

    def test_errors(self):
        for thing in [*NO_GRIDS, OPEN, naive_grids.table_of_permutations(3, False)]:
            for good in (TWO, SIX, OPEN, None):
                self.fails(BadGrid, {"thing": thing}, "judge_renamed", thing, good)
                self.fails(BadGrid, {"thing": thing}, "renamed_holds", thing, good, None)
            for good in (TWO, SIX):
                self.fails(BadGrid, {"thing": thing}, "judge_renamed", good, thing)
                self.fails(BadGrid, {"thing": thing}, "renamed_holds", good, thing, ("renamed", (0, 1), (0, 1), (0, 1)))
        for one, other in itertools.permutations((((0,),), TWO, THREE, SIX), 2):
            self.fails(OtherSizes, {}, "judge_renamed", one, other)
            self.fails(OtherSizes, {}, "renamed_holds", one, other, None)


if __name__ == "__main__":
    unittest.main()
