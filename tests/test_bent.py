"""[6.3] bent charts, [6.4] which cubes have bent charts, [6.5] where the ruler meets the bow."""

import itertools
import math
import random
import unittest
from rulertrees.errors import BadChart, BadCube, BadDial, BadPlaces
from tests import naive
from tests.helpers import Case, ODD_VALUES, otherwise_values
from tests.test_cubes import KINDS, NO_CUBES, all_cubes, random_cubes
from tests.test_straight import NO_RULERS, random_ruler, triple_at

STAY = (1, 0, 0, 1)
RULER = ((0, -1, 0), (-1, 0, 1))
CHART = (2, STAY, RULER)
PLACES = naive.SMALL_PLACES
MILLION = 10 ** 6
NO_CHARTS = [thing for thing in ODD_VALUES if not naive.is_bent(thing)] + [
    (3, STAY, RULER), (-1, STAY, RULER), (True, STAY, RULER), (False, STAY, RULER), ("2", STAY, RULER), (2, STAY),
    (2, (1, 2, 2, 4), RULER), (2, (0, 0, 0, 0), RULER), (2, [1, 0, 0, 1], RULER), (2, (1, 0, 0, True), RULER),
    (2, STAY, RULER, 0), [2, STAY, RULER], (STAY, 2, RULER), (2, RULER, STAY), (None, STAY, RULER)] + [
    (1, STAY, thing) for thing in NO_RULERS]


def random_charts(seed, many, bound=3):
    chance = random.Random(seed)
    found = []
    while len(found) < many:
        change = tuple(chance.randrange(-bound, bound + 1) for _ in range(4))
        if naive.is_change(change):
            found.append((chance.randrange(3), change, random_ruler(chance, bound)))
    return found


def naive_reads(chart, places):
    """Whether the mark of the ruler lies on the chord, or on the tangent if both marks on the bow are one."""
    dial, (p, q, r, s), ruler = chart
    one, other = [place for at, place in enumerate(places) if at != dial]
    other = (p * other[0] + q * other[1], r * other[0] + s * other[1])
    mark = triple_at(ruler, places[dial])
    points = [(a * a, a * b, b * b) for a, b in (one, other)]
    if naive.rank(points) == 1:
        # The tangent at (aa, ab, bb) also goes through the point that is half of its derivative.
        a, b = one
        points[1] = (0, a, 2 * b) if a != 0 else (2 * a, b, 0)
    return naive.determinant((points[0], points[1], mark)) == 0


class ChartsTest(Case):

    def test_is_bent(self):
        for dial in range(3):
            self.gives(True, "is_bent", (dial, STAY, RULER))
            self.gives(True, "is_bent", (dial, (-2, 0, 0, 2), ((MILLION, 1, 1), (MILLION, -1, 1))))
        for thing in otherwise_values(CHART):
            self.gives(naive.is_bent(thing), "is_bent", thing)
        for thing in NO_CHARTS:
            self.gives(False, "is_bent", thing)

    def test_relation_and_reading(self):
        for at, chart in enumerate(random_charts(1, 60) + random_charts(2, 6, MILLION) + [CHART]):
            cube = self.call("bent_relation", chart)
            self.assertEqual(naive.short(cube), cube)
            self.assertEqual(len(cube), 8)
            for places in itertools.product(PLACES, repeat=3):
                expected = naive_reads(chart, places)
                self.assertEqual(naive.value(cube, places) == 0, expected, (chart, places))
                if at % 4 == 0:
                    self.gives(expected, "bent_reads", chart, places)

    def test_marks_that_are_one_point(self):
        for dial, change, ruler in random_charts(4, 40):
            p, q, r, s = change
            for a, b in PLACES:
                # The place of the dial i is that to which the change moves the place of the dial j.
                moved = naive.short((p * a + q * b, r * a + s * b))
                if moved[1] < 0:
                    moved = (-moved[0], -moved[1])
                for third in PLACES:
                    places = [moved, (a, b)]
                    places.insert(dial, third)
                    expected = naive_reads((dial, change, ruler), places)
                    self.gives(expected, "bent_reads", (dial, change, ruler), tuple(places))
        # The tangent at (1, 1, 1) is the line through (1, 1, 1) and (2, 1, 0).
        tangent = ((2, 1, 0), (0, 0, 1))
        self.gives(True, "bent_reads", (2, STAY, tangent), ((1, 1), (1, 1), (1, 0)))
        self.gives(False, "bent_reads", (2, STAY, tangent), ((1, 1), (1, 1), (1, 1)))

    def test_examples(self):
        self.gives((0, 1, 1, 0, 1, 0, 0, -1), "bent_relation", CHART)

    def test_the_dial_of_the_change(self):
        # The mark of the greater one of the two other dials is moved: (0, 1) to (5, 1). Both marks on the bow are
        # one point then, and (0, 5, 2) lies on the tangent there.
        change, ruler = (1, 5, 0, 1), ((0, 5, 2), (1, 0, 0))
        for dial, places in ((0, ((1, 0), (5, 1), (0, 1))), (1, ((5, 1), (1, 0), (0, 1))), (2, ((5, 1), (0, 1), (1, 0)))):
            self.gives(True, "bent_reads", (dial, change, ruler), places)
            self.gives(False, "bent_reads", (dial, STAY, ruler), places)

    def test_errors(self):
        for thing in NO_CHARTS:
            self.fails(BadChart, {"thing": thing}, "bent_relation", thing)
            self.fails(BadChart, {"thing": thing}, "bent_reads", thing, ((1, 0),) * 3)
            self.fails(BadChart, {"thing": thing}, "bent_reads", thing, None)
        for thing in [*ODD_VALUES, ((1, 0),) * 2, ((1, 0),) * 4, [(1, 0)] * 3, ((1, 0), (1, 0), (2, 0)),
                      ((1, 0), (1, 0), (1, True)), ((1, 0), (1, 0), [1, 0])]:
            if thing != ((1, 0), (0, 1), (1, 1)):
                self.fails(BadPlaces, {"thing": thing}, "bent_reads", CHART, thing)


def is_whole(cube):
    return all(naive.rank(naive.table(cube, (dial,))) == 2 for dial in range(3))


def is_square(number):
    return number >= 0 and math.isqrt(number) ** 2 == number


class BentCubesTest(Case):

    def check_chart(self, cube, dial):
        found = self.call("bent_chart", cube, dial)
        if not is_whole(cube):
            self.assertIsNone(found)
            return
        self.assertTrue(naive.is_bent(found), found)
        self.assertEqual(found[0], dial)
        self.assertEqual(self.call("bent_relation", found), cube)
        # Where the line of the ruler meets the bow.
        u, v = found[2]
        line = (u[1] * v[2] - u[2] * v[1], u[2] * v[0] - u[0] * v[2], u[0] * v[1] - u[1] * v[0])
        number = line[1] ** 2 - 4 * line[0] * line[2]
        cayley = naive.discriminant(naive.form(cube, 0))
        self.assertEqual(number == 0, cayley == 0)
        self.assertEqual(is_square(number), is_square(cayley))

    def check_form(self, cube, dial):
        found = self.call("bend_form", cube, dial)
        if not is_whole(cube):
            self.assertIsNone(found)
            return
        self.assertIs(type(found), tuple)
        self.assertEqual(len(found), 3)
        g, h, (a, b, c) = found
        self.assertTrue(naive.is_ints(g, 4) and naive.is_ints(h, 4) and naive.is_ints((a, b, c), 3))
        self.assertEqual(naive.rank((g, h)), 2)
        number, cayley = b * b - 4 * a * c, naive.discriminant(naive.form(cube, 0))
        self.assertTrue(number == 0 if cayley == 0 else number != 0 and is_square(number * cayley))
        for x, y in ((1, 0), (0, 1), (1, 1), (2, -3), (-5, 1), (7, 4)):
            change = tuple(x * one + y * other for one, other in zip(g, h))
            self.assertEqual(a * x * x + b * x * y + c * y * y, change[0] * change[3] - change[1] * change[2])
            if naive.is_change(change):
                self.assertTrue(has_ruler(cube, dial, change))
        return g, h

    def test_each_sort(self):
        for _, cube in all_cubes():
            for dial in range(3):
                self.check_chart(cube, dial)
                self.check_form(cube, dial)

    def test_small_and_great_cubes(self):
        for at, cube in enumerate(itertools.product((-1, 0, 1), repeat=8)):
            if at % 13 == 0 and any(cube) and naive.short(cube) == cube:
                self.check_chart(cube, at % 3)
                self.check_form(cube, at % 3)
        for at, cube in enumerate(random_cubes(5, 60, 100)):
            self.check_chart(cube, at % 3)
            self.check_form(cube, at % 3)

    def test_cubes_of_bent_charts(self):
        for chart in random_charts(6, 40) + random_charts(7, 6, MILLION):
            cube = self.call("bent_relation", chart)
            self.assertTrue(is_whole(cube))
            for dial in range(3):
                self.check_chart(cube, dial)
            # The change of the chart is among those that the form tells.
            g, h = self.check_form(cube, chart[0])
            self.assertEqual(naive.rank((g, h, chart[1])), 2)

    def test_changes_without_a_chart(self):
        for cube in random_cubes(8, 20, 4):
            if is_whole(cube):
                for dial in range(3):
                    g, h, _ = self.call("bend_form", cube, dial)
                    for change in ((1, 0, 0, 1), (0, 1, 1, 0), (1, 2, 3, 4), (1, 0, 5, 1), (2, 0, 0, 1)):
                        self.assertEqual(naive.rank((g, h, change)) == 2, has_ruler(cube, dial, change))

    def test_errors(self):
        for thing in NO_CUBES:
            for name in ("bent_chart", "bend_form"):
                self.fails(BadCube, {"thing": thing}, name, thing, 0)
                self.fails(BadCube, {"thing": thing}, name, thing, 3)
        for dial in (-1, 3, True, False, None, "0", (0,), [0], 10 ** 30):
            for cube in (KINDS[("full", 1)][0], KINDS[("part", 0)][0]):
                self.fails(BadDial, {"dial": dial}, "bent_chart", cube, dial)
                self.fails(BadDial, {"dial": dial}, "bend_form", cube, dial)


def has_ruler(cube, dial, change):
    """Whether the cube, the change of its greater other dial taken back, holds as bow points do.

    It does if both of its tables in the two other dials, then, are symmetric.
    """
    p, q, r, s = change
    changes = [STAY, STAY, STAY]
    changes[1 if dial == 2 else 2] = (s, -q, -r, p)
    items = naive.changed_items(cube, changes)
    rows = naive.table(items, (dial,))
    return all(row[1] == row[2] for row in rows)


if __name__ == "__main__":
    unittest.main()
