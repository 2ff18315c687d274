"""[14.1] grids, [14.2] figures, [14.3] groups, [14.4] which grids are of groups."""

import itertools
import random
import time
import unittest
from rulertrees.errors import BadGrid, BadOrders
from tests import naive
from tests import naive_grids
from tests.helpers import Case, ODD_VALUES, otherwise_values
from tests.naive_grids import ORDERS

# Its first open figure is told by an example of DOC.md.
OPEN = ((0, 1, 2, 3, 4), (1, 0, 3, 4, 2), (2, 4, 0, 1, 3), (3, 2, 4, 0, 1), (4, 3, 1, 2, 0))
SIX = ((1, 2, 3, 4, 5, 0), (0, 1, 2, 3, 4, 5), (5, 0, 1, 2, 3, 4), (4, 5, 0, 1, 2, 3), (3, 4, 5, 0, 1, 2), (2, 3, 4, 5, 0, 1))
TWO = ((0, 1), (1, 0))
THREE = ((0, 1, 2), (1, 2, 0), (2, 0, 1))
NO_GRIDS = [thing for thing in ODD_VALUES if not naive_grids.is_grid(thing)] + [
    (), ((),), ((1,),), [(0,)], ([0],), ((False,),), ((0, 1), (0, 1)), ((0, 1), (1, 1)), ((0, 1), (1, 0), (0, 1)), (0, 1),
    ((0, 1), (1, False)), ((0, 1), (1, "0")), ((0, 1), (1, None)), ((0, 1), (1, -1)), ((0, 2), (2, 0)), ((0, 1), [1, 0]),
    ((0, 1), (1, 0, 0)), ((0, 1),), ((0, 1), (1,)), ((0, 1), None), {(0, 1): 0, (1, 0): 1}, ((0, 1), (1, 10 ** 30)),
    ((0, 1, 2), (1, 2, 0), (0, 1, 2)), tuple(tuple((x + y) % 9 for x in range(9)) for y in range(9))]
NO_ORDERS = [thing for thing in ODD_VALUES if type(thing) is not tuple or thing not in ORDERS] + [
    (1,), (0,), (-2,), (9,), (2, 3), (4, 2), (3, 3), (2, 2, 4), (2, 2, 2, 2), (1, 2), (2, 1), (True,), (2, True), [2],
    [2, 2], ("2",), (None,), ((2,),), 2, (2, [2]), (10 ** 30,), (2, 10 ** 30), (2, 6), (16,)]


def shuffled(chance, grid):
    """A grid that is renamed from a grid."""
    lines = [chance.sample(range(len(grid)), len(grid)) for _ in range(3)]
    return naive_grids.renamed_grid(grid, *lines)


def some_grids(seed):
    """Grids of groups up to names, of groups that are not commutative, and of nothing."""
    chance = random.Random(seed)
    found = [((0,),), TWO, THREE, SIX, OPEN]
    for orders in ORDERS:
        standard = naive_grids.standard_grid(orders)
        found += [standard, shuffled(chance, standard), shuffled(chance, standard)]
    found += [shuffled(chance, naive_grids.table_of_permutations(3, False)), naive_grids.table_of_permutations(3, False)]
    return found + [naive_grids.random_grid(chance, n) for n in (2, 3, 4, 4, 5, 5, 6, 6, 7)]


class FiguresTest(Case):

    def test_is_grid(self):
        for grid in some_grids(1):
            self.gives(True, "is_grid", grid)
        for thing in NO_GRIDS:
            self.assertFalse(naive_grids.is_grid(thing), thing)
            self.gives(False, "is_grid", thing)
        for grid in (TWO, THREE):
            for thing in otherwise_values(grid):
                self.gives(naive_grids.is_grid(thing), "is_grid", thing)

    def test_all_small_tables(self):
        for n in (1, 2, 3):
            grids = 0
            for rows in itertools.product(itertools.product(range(n), repeat=n), repeat=n):
                expected = naive_grids.is_grid(rows)
                self.gives(expected, "is_grid", rows)
                grids += expected
            self.assertEqual(grids, (1, 2, 12)[n - 1])

    def test_first_open_figures(self):
        seen = {True: 0, False: 0}
        for grid in some_grids(2):
            figure = naive_grids.first_open(grid)
            self.gives(figure, "first_open", grid)
            self.gives(figure is None, "is_closed", grid)
            seen[figure is None] += 1
        self.assertGreater(min(seen.values()), 5)

    def test_groups_of_eight_that_are_not_commutative(self):
        # The turns and flips of a square, and the eight units of the quaternions.
        square = tuple(tuple(4 * ((a // 4 + b // 4) % 2) + (a % 4 * (-1) ** (b // 4) + b % 4) % 4 for b in range(8))
                       for a in range(8))
        units = tuple(tuple(
            4 * ((a // 4 + b // 4) % 2) + (a % 4 * (-1) ** (b // 4) + b % 4 + 2 * (a // 4) * (b // 4)) % 4 for b in range(8))
            for a in range(8))
        for grid in (square, units):
            self.gives(True, "is_grid", grid)
            self.gives(naive_grids.first_open(grid), "first_open", grid)
            self.gives(False, "is_closed", grid)
            self.gives(None, "orders_of", grid)
            self.gives(0, "many_certificates", grid)

    def test_examples(self):
        self.gives(False, "is_closed", OPEN)
        self.gives((0, 1, 2, 0, 1, 2), "first_open", OPEN)

    def test_errors(self):
        for thing in NO_GRIDS:
            for name in ("is_closed", "first_open", "judge_grid", "orders_of", "many_certificates"):
                self.fails(BadGrid, {"thing": thing}, name, thing)
            for other in (None, ("open", (0,) * 6)):
                self.fails(BadGrid, {"thing": thing}, "grid_holds", thing, other)


class GroupsTest(Case):

    def test_orders(self):
        self.assertEqual(len(ORDERS), 11)
        for orders in ORDERS:
            self.gives(True, "are_orders", orders)
            self.gives(naive_grids.standard_grid(orders), "standard_grid", orders)
        for orders in itertools.chain(*(itertools.product(range(10), repeat=size) for size in range(5))):
            if orders not in ORDERS:
                self.gives(False, "are_orders", orders)
        for thing in NO_ORDERS:
            self.gives(False, "are_orders", thing)
            self.fails(BadOrders, {"thing": thing}, "standard_grid", thing)
        for thing in otherwise_values((2, 4)):
            self.gives(type(thing) is tuple and naive.is_ints(thing, len(thing)) and thing in ORDERS, "are_orders", thing)

    def test_judged_grids(self):
        for grid in some_grids(3):
            found = self.call("judge_grid", grid)
            self.assertTrue(naive_grids.grid_holds(grid, found), (grid, found))
            self.gives(True, "grid_holds", grid, found)
            if naive_grids.first_open(grid) is None:
                orders = naive_grids.orders_of(grid)
                self.assertEqual(found[:2], ("group", orders))
                self.gives(orders, "orders_of", grid)
            else:
                self.assertEqual(found[0], "open")
                self.gives(None, "orders_of", grid)
                self.gives(0, "many_certificates", grid)

    def test_how_many_certificates(self):
        chance = random.Random(4)
        for orders in ORDERS:
            grid = shuffled(chance, naive_grids.standard_grid(orders))
            expected = len(grid) ** 2 * naive_grids.automorphisms(orders)
            self.gives(expected, "many_certificates", grid)
            if len(grid) <= 4:
                found = 0
                members = naive_grids.members(orders)
                for f, g, h in itertools.product(itertools.permutations(members), repeat=3):
                    right = all(naive_grids.plus(orders, f[x], g[y]) == h[entry]
                                for x, row in enumerate(grid) for y, entry in enumerate(row))
                    found += right
                    if right:
                        self.gives(True, "grid_holds", grid, ("group", orders, f, g, h))
                self.assertEqual(found, expected)

    def test_certificates_of_others(self):
        chance = random.Random(5)
        for grid in some_grids(6):
            found = self.call("judge_grid", grid)
            if found[0] == "group":
                _, orders, f, g, h = found
                # All sums of two shifts are right ones, and one shift alone is a wrong one.
                one, other = [chance.choice(f) for _ in range(2)]
                both = naive_grids.plus(orders, one, other)
                moved = [tuple(naive_grids.plus(orders, shift, member) for member in names)
                         for shift, names in ((one, f), (other, g), (both, h))]
                self.gives(True, "grid_holds", grid, ("group", orders, *moved))
                self.gives(not any(one), "grid_holds", grid, ("group", orders, moved[0], g, h))
                for figure in list(naive_grids.figures(grid))[::50]:
                    self.gives(False, "grid_holds", grid, ("open", figure))
            else:
                for figure in list(naive_grids.figures(grid))[::20]:
                    self.gives(naive_grids.is_open(grid, figure), "grid_holds", grid, ("open", figure))
                for _ in range(20):
                    figure = tuple(chance.randrange(-1, len(grid) + 1) for _ in range(6))
                    thing = ("open", figure)
                    self.gives(naive_grids.grid_holds(grid, thing), "grid_holds", grid, thing)

    def test_one_thing_otherwise(self):
        for grid in (((0,),), TWO, THREE, naive_grids.standard_grid((2, 2)), OPEN):
            for thing in otherwise_values(self.call("judge_grid", grid)):
                self.gives(naive_grids.grid_holds(grid, thing), "grid_holds", grid, thing)

    def test_any_value(self):
        for thing in ODD_VALUES + (("open", None), ("open", (0, 0, 1, 0, 0, 1)), ("group", (), (), (), ()), ("open", [0] * 6),
                                   ("group", (5,), None, None, None), ("group", [5], (), (), ()), ("open", (False,) * 6)):
            for grid in (((0,),), THREE, OPEN):
                self.gives(False, "grid_holds", grid, thing)

    def test_examples(self):
        four = ((0, 1, 2, 3), (1, 0, 3, 2), (2, 3, 0, 1), (3, 2, 1, 0))
        self.gives(four, "standard_grid", (2, 2))
        self.gives(96, "many_certificates", four)
        self.gives(32, "many_certificates", self.call("standard_grid", (4,)))
        self.gives((6,), "orders_of", SIX)
        self.gives(None, "orders_of", OPEN)
        self.gives(True, "grid_holds", OPEN, ("open", (0, 1, 2, 0, 1, 2)))
        self.gives(False, "grid_holds", OPEN, ("open", (0, 0, 1, 0, 0, 1)))
        self.gives(True, "grid_holds", TWO, ("group", (2,), ((0,), (1,)), ((0,), (1,)), ((0,), (1,))))
        self.gives(False, "grid_holds", TWO, ("group", (2,), ((1,), (0,)), ((0,), (1,)), ((0,), (1,))))
        self.gives(True, "grid_holds", ((0,),), ("group", (), ((),), ((),), ((),)))

    def test_groups_of_other_sizes(self):
        # The sums are right at all rows and columns of the grid, but the group has more members.
        names = ((0,), (2,), (1,), (3,))
        self.gives(False, "grid_holds", TWO, ("group", (4,), names, names, names))
        self.gives(False, "grid_holds", TWO, ("group", (), ((),), ((),), ((),)))
        self.gives(False, "grid_holds", TWO, ("group", (4,), names[:2], names[:2], names[:2]))

    def test_little_time(self):
        start = time.process_time()
        for grid in some_grids(7):
            self.call("judge_grid", grid)
            self.call("many_certificates", grid)
        self.assertLess(time.process_time() - start, 5)


if __name__ == "__main__":
    unittest.main()
