"""[14.6] filling a grid, [14.7] certificates for partial grids."""

import itertools
import random
import time
import unittest
from rulertrees.errors import BadGrid
from tests import naive_grids
from tests.helpers import Case, ODD_VALUES, otherwise_values
from tests.naive_grids import ORDERS
from tests.test_grids import NO_GRIDS, OPEN, SIX, TWO, shuffled, some_grids

SMALL = ((0, 1, 2), (1, None, 0), (2, None, None))
CLASH = ((0, 1, 2, 3), (1, None, 3, None), (2, 0, None, None), (3, None, None, None))
HALF = ((0, 1, 2, 3), (1, 2, 3, 0), (2, None, None, None), (3, None, None, None))
NO_PARTIAL = [thing for thing in ODD_VALUES + tuple(NO_GRIDS) if not naive_grids.is_partial(thing)] + [
    ((None, 0, 0), (None,) * 3, (None,) * 3), ((0, None), (0, None)), ((None, None), (None, 2)), ((None, None), (None, -1)),
    ((None, None), (None, False)), ((None, None), (None, "")), ((None, None), (None, ())), ((None, None), [None, None]),
    ((None, None),), ((None,), (None,)), [(None,)], ((None,) * 9,) * 9, (None, None), ((None, None), None)]


def emptied(chance, grid, many):
    """A grid without so many of its entries."""
    n = len(grid)
    taken = chance.sample(list(itertools.product(range(n), repeat=2)), many)
    return tuple(tuple(None if (x, y) in taken else entry for y, entry in enumerate(row)) for x, row in enumerate(grid))


def random_partial(chance, n, many):
    """A partial grid with so many entries at most, each put where it does not yet stand in its row or column."""
    rows = [[None] * n for _ in range(n)]
    for _ in range(many):
        x, y, entry = [chance.randrange(n) for _ in range(3)]
        if entry not in rows[x] and entry not in [row[y] for row in rows]:
            rows[x][y] = entry
    return tuple(map(tuple, rows))


def some_partial(seed, sizes=(1, 2, 3, 4, 5)):
    chance = random.Random(seed)
    found = [SMALL, CLASH, HALF, ((None,),), ((0,),), ((None,) * 3,) * 3, OPEN]
    for n in sizes:
        for orders in ORDERS:
            grid = naive_grids.standard_grid(orders)
            if len(grid) == n:
                for part in (1, 2, 3):
                    found.append(emptied(chance, shuffled(chance, grid), n * n * part // 4))
        for many in (n, 2 * n, 4 * n):
            found.append(random_partial(chance, n, many))
        if n > 3:
            # A grid of nothing seldom has a filling, even if some of its entries are gone.
            found += [emptied(chance, naive_grids.random_grid(chance, n), many) for many in (2, n, n + 2)]
    return found


class FillingTest(Case):

    def check(self, grid, seen):
        found = self.call("judge_filling", grid)
        self.assertTrue(naive_grids.filling_holds(grid, found), (grid, found))
        self.gives(True, "filling_holds", grid, found)
        told = self.call("filling", grid)
        # Figures taken in any other order end alike.
        for seed in (1, 2):
            self.assertEqual(naive_grids.walk(grid, random.Random(seed)), told)
        self.assertEqual(found[0], "clash" if told is None else "filled")
        seen["clash" if told is None else "all" if told and None not in itertools.chain(*told) else "some"] += 1
        return told

    def test_walks_over_the_figures(self):
        seen = {"clash": 0, "all": 0, "some": 0}
        for grid in some_partial(1):
            self.check(grid, seen)
        self.assertGreater(min(seen.values()), 4, seen)

    def test_what_is_left_of_closed_grids(self):
        chance = random.Random(2)
        for orders in ORDERS:
            grid = shuffled(chance, naive_grids.standard_grid(orders))
            if len(grid) > 6:
                continue
            for many in range(0, len(grid) ** 2 + 1, 3):
                part = emptied(chance, grid, many)
                told = self.call("filling", part)
                # A closed grid that agrees with a partial grid agrees with its filling.
                for row, fresh, whole in zip(part, told, grid):
                    for entry, other, last in zip(row, fresh, whole):
                        self.assertIn(other, (entry, last))
                        self.assertIn(entry, (other, None))
        self.assertEqual(self.call("filling", SIX), SIX)

    def test_whole_grids(self):
        for grid in some_grids(3):
            if len(grid) <= 6:
                closed = naive_grids.first_open(grid) is None
                self.gives(grid if closed else None, "filling", grid)
                found = self.call("judge_filling", grid)
                self.assertEqual(found[0], "filled" if closed else "clash")
                if closed:
                    self.assertEqual(found[1], ())

    def test_certificates_of_others(self):
        chance = random.Random(4)
        for grid in some_partial(5, (3, 4)):
            for _ in range(4):
                rest, figures, clash = grid, [], False
                while True:
                    all_deeds = [(figure, naive_grids.deed(rest, figure)) for figure in naive_grids.figures(rest)]
                    deeds = [(figure, done) for figure, done in all_deeds if done is not None]
                    if not deeds or clash:
                        break
                    figure, done = chance.choice(deeds)
                    figures.append(figure)
                    clash = done == "clash"
                    rest = rest if clash else done
                told = tuple(figures)
                for kind in ("filled", "clash"):
                    self.gives(kind == ("clash" if clash else "filled"), "filling_holds", grid, (kind, told))
                    # One figure fewer, one twice, and figures that do nothing.
                    for thing in ((kind, told[:-1]), (kind, told + told[-1:]), (kind, ((0,) * 6,) + told),
                                  (kind, told[1:]), (kind, told[::-1])):
                        self.gives(naive_grids.filling_holds(grid, thing), "filling_holds", grid, thing)

    def test_each_figure_alone(self):
        chance = random.Random(8)
        seen = {"row": 0, "column": 0, "both": 0, "entries": 0, "fills": 0, "nothing": 0}
        for n in (2, 3, 4, 4):
            for _ in range(80):
                grid = random_partial(chance, n, chance.choice((n * n, 2 * n * n)))
                told = [(figure, naive_grids.deed(grid, figure)) for figure in naive_grids.figures(grid)]
                active = [one for one in told if one[1] is not None]
                for figure, done in chance.sample(active, min(len(active), 12)) + told[::99]:
                    self.gives(done == "clash", "filling_holds", grid, ("clash", (figure,)))
                    thing = ("filled", (figure,))
                    self.gives(naive_grids.filling_holds(grid, thing), "filling_holds", grid, thing)
                    seen[self.kind_of(grid, figure, done)] += 1
                    self.check_last(chance, grid, figure, done)
        self.assertGreater(min(seen.values()), 10, seen)

    def kind_of(self, grid, figure, done):
        """How a figure clashes: by the row or the column of the empty cell, by both, or by two entries; what it does else."""
        _, x2, x3, _, y2, y3 = figure
        cells = [(x, y) for x, y in ((x2, y3), (x3, y2)) if grid[x][y] is None]
        if done != "clash":
            return "fills" if done else "nothing"
        if not cells:
            return "entries"
        x, y = cells[0]
        entry = grid[x2][y3] if grid[x3][y2] is None else grid[x3][y2]
        in_row, in_column = entry in grid[x], entry in [row[y] for row in grid]
        return "both" if in_row and in_column else "row" if in_row else "column"

    def check_last(self, chance, grid, figure, done):
        """Behind a figure, any six numbers: figures or none, also with rows and columns that do not exist."""
        n = len(grid)
        for _ in range(3):
            other = tuple(chance.randrange(-1, n + (chance.random() < 0.2)) for _ in range(6))
            for figures in ((other,), (figure, other), (other, figure)):
                for kind in ("filled", "clash"):
                    expected = naive_grids.filling_holds(grid, (kind, figures))
                    self.gives(expected, "filling_holds", grid, (kind, figures))

    def test_equations_of_empty_cells(self):
        # The entries of the equations are all None, and those of the last two cells differ.
        grid = ((None, None, None), (None, 0, 1), (None, 2, None))
        self.assertNotIn((0, 1, 2, 0, 1, 2), list(naive_grids.figures(grid)))
        for kind in ("filled", "clash"):
            self.gives(False, "filling_holds", grid, (kind, ((0, 1, 2, 0, 1, 2),)))
            self.gives(False, "filling_holds", grid, (kind, ((0, 2, 1, 0, 2, 1),)))
        # The entries of one equation are None.
        grid = ((None, None, 0), (None, None, 1), (0, 2, None))
        for kind in ("filled", "clash"):
            self.gives(False, "filling_holds", grid, (kind, ((0, 1, 2, 0, 1, 2),)))
            self.gives(False, "filling_holds", grid, (kind, ((0, 2, 1, 0, 2, 1),)))

    def test_one_thing_otherwise(self):
        right = 0
        for grid in (SMALL, CLASH, ((None,),), TWO, ((0, 1), (None, None))):
            for thing in otherwise_values(self.call("judge_filling", grid)):
                expected = naive_grids.filling_holds(grid, thing)
                self.gives(expected, "filling_holds", grid, thing)
                right += expected
        self.assertGreater(right, 0)

    def test_any_value(self):
        for thing in ODD_VALUES + (("filled", None), ("clash", ()), ("clash", None), ("filled", [()]), ("filled", ((),)),
                                   ("filled", ((0, 1, 2, 0, 1, True),)), ("clash", ((0,) * 6,)), ("clash", (None,))):
            self.gives(False, "filling_holds", SMALL, thing)
            self.gives(False, "filling_holds", CLASH, thing)
        self.gives(True, "filling_holds", ((None,),), ("filled", ()))
        self.gives(False, "filling_holds", ((None,),), ["filled", ()])
        self.gives(False, "filling_holds", ((None,),), ("filled", []))
        self.gives(False, "filling_holds", ((None,),), ("filled", ((0,) * 6,)))

    def test_is_partial(self):
        for grid in some_partial(6):
            self.gives(True, "is_partial", grid)
        for n in range(1, 11):
            self.gives(n <= 8, "is_partial", ((None,) * n,) * n)
        for thing in NO_PARTIAL:
            self.assertFalse(naive_grids.is_partial(thing), thing)
            self.gives(False, "is_partial", thing)
        for thing in otherwise_values(((None, 1), (1, None))):
            self.gives(naive_grids.is_partial(thing), "is_partial", thing)
        for rows in itertools.product(itertools.product((None, 0, 1), repeat=2), repeat=2):
            self.gives(naive_grids.is_partial(rows), "is_partial", rows)

    def test_examples(self):
        self.gives(((0, 1, 2), (1, None, 0), (2, 0, None)), "filling", SMALL)
        self.gives(None, "filling", CLASH)
        self.gives(True, "filling_holds", SMALL, ("filled", ((0, 1, 2, 0, 1, 2),)))
        self.gives(((0, 1, 2, 3), (1, 2, 3, 0), (2, 3, 0, 1), (3, 0, 1, 2)), "filling", HALF)

    def test_errors(self):
        for thing in NO_PARTIAL:
            self.fails(BadGrid, {"thing": thing}, "judge_filling", thing)
            self.fails(BadGrid, {"thing": thing}, "filling", thing)
            for other in (None, ("filled", ())):
                self.fails(BadGrid, {"thing": thing}, "filling_holds", thing, other)

    def test_little_time(self):
        chance = random.Random(7)
        start = time.process_time()
        for _ in range(10):
            grid = emptied(chance, shuffled(chance, naive_grids.standard_grid((6,))), 18)
            found = self.call("judge_filling", grid)
            self.gives(True, "filling_holds", grid, found)
        self.assertLess(time.process_time() - start, 10)


if __name__ == "__main__":
    unittest.main()
