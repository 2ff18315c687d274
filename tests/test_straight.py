"""[6.1] straight rulers and charts, [6.2] which cubes have straight charts, and which charts are alike."""

import itertools
import random
import unittest
from rulertrees.errors import BadChart, BadCube, BadPlace, BadPlaces, BadRuler
from tests import naive
from tests.helpers import Case, ODD_VALUES, otherwise_values
from tests.test_cubes import KINDS, NO_CUBES, all_cubes, random_cubes
from tests.test_places import NO_PLACES

RULER = ((1, 2, 3), (0, -1, 4))
PLACES = naive.SMALL_PLACES
CHART = (((1, 0, 0), (0, 1, 0)), ((0, 1, 0), (0, 0, 1)), ((0, 0, 1), (1, 0, 0)))
TANGENT_CHART = (((1, 0, 0), (0, 0, 1)), ((0, 1, 0), (0, 0, 1)), ((1, 1, 0), (0, 0, 2)))
PART_CHART = (((1, 0, 0), (0, 1, 0)), ((0, 0, 1), (1, 1, 0)), ((1, 2, 0), (0, 3, 0)))
LINE = (((1, 0, 0), (0, 1, 0)), ((1, 1, 0), (1, -1, 0)), ((2, 3, 0), (0, -5, 0)))
MILLION = 10 ** 6
NO_RULERS = [thing for thing in ODD_VALUES if not naive.is_ruler(thing)] + [
    ((1, 2, 3), (2, 4, 6)), ((1, 2, 3), (-1, -2, -3)), ((1, 2, 3), (0, 0, 0)), ((0, 0, 0), (1, 2, 3)),
    ((2, 4, 6), (3, 6, 9)), ((0, 0, 0), (0, 0, 0)), ((1, 2), (3, 4)), ((1, 2, 3), (0, -1, 4), (1, 0, 0)),
    [(1, 2, 3), (0, -1, 4)], ((1, 2, 3), [0, -1, 4]), ((1, 2, 3), (0, -1, True)), ((1, 2, 3), (0, -1, 4, 0)),
    (1, 2, 3), ((1, 2, 3),), ((1, 2, 3), "0-4")]
NO_CHARTS = [thing for thing in ODD_VALUES if not naive.is_straight(thing)] + NO_RULERS + [
    LINE, CHART[:2], CHART + CHART[:1], list(CHART), (CHART[0], CHART[0], CHART[0]), RULER,
    (CHART[0], CHART[1], [(0, 0, 1), (1, 0, 0)]), (CHART[0], CHART[1], ((0, 0, 1), (0, 0, 2))),
    (CHART[0], ((0, 2, 0), (3, 0, 0)), ((1, 1, 0), (7, -7, 0)))]


def random_ruler(chance, bound=3):
    while True:
        found = tuple(tuple(chance.randrange(-bound, bound + 1) for _ in range(3)) for _ in range(2))
        if naive.is_ruler(found):
            return found


def random_charts(seed, many, bound=3):
    chance = random.Random(seed)
    found = [tuple(random_ruler(chance, bound) for _ in range(3)) for _ in range(many)]
    return [chart for chart in found if naive.is_straight(chart)]


def triple_at(ruler, place):
    return tuple(place[0] * u + place[1] * v for u, v in zip(*ruler))


def naive_alike(one, other):
    """Whether a linear map takes the triples of each ruler of one chart to one multiple of those of the other one."""
    rows = []
    for k in range(3):
        for triple, image in zip(one[k], other[k]):
            for row in range(3):
                line = [0] * 12
                line[3 * row:3 * row + 3] = triple
                line[9 + k] = -image[row]
                rows.append(line)
    basis = naive.null_space(rows)
    chance = random.Random(5)
    for _ in range(4):
        parts = [chance.randrange(1, 10 ** 6) for _ in basis]
        found = [sum(part * vector[at] for part, vector in zip(parts, basis)) for at in range(12)]
        if all(found[9:]) and naive.determinant((found[:3], found[3:6], found[6:9])) != 0:
            return True
    return False


def naive_led(map_of, ruler, factor):
    rows = (map_of[:3], map_of[3:6], map_of[6:])
    return tuple(tuple(factor * sum(a * b for a, b in zip(row, triple)) for row in rows) for triple in ruler)


class RulersTest(Case):

    def test_is_ruler(self):
        for one in itertools.product((-2, 0, 1), repeat=3):
            for other in itertools.product((-1, 0, 2), repeat=3):
                self.gives(naive.is_ruler((one, other)), "is_ruler", (one, other))
        for thing in NO_RULERS:
            self.gives(False, "is_ruler", thing)
        for thing in otherwise_values(RULER):
            self.gives(naive.is_ruler(thing), "is_ruler", thing)
        self.gives(True, "is_ruler", ((MILLION, 0, 1), (MILLION, 1, 1)))

    def test_marks(self):
        chance = random.Random(1)
        for ruler in [RULER, ((2, 0, 0), (0, 2, 4))] + [random_ruler(chance, MILLION) for _ in range(40)]:
            found = {place: self.call("mark", ruler, place) for place in PLACES + ((10 ** 9, 7), (-3, 10 ** 9))}
            for place, point in found.items():
                self.assertEqual(point, naive.short(triple_at(ruler, place)))
                self.assertEqual(naive.rank(ruler + (point,)), 2)
            self.assertEqual(len(set(found.values())), len(found))
        self.gives((1, 2, 3), "mark", RULER, (1, 0))
        self.gives((0, 1, -4), "mark", RULER, (0, 1))
        self.gives((1, 1, 2), "mark", ((2, 0, 0), (0, 2, 4)), (1, 1))

    def test_errors(self):
        for thing in NO_RULERS:
            self.fails(BadRuler, {"thing": thing}, "mark", thing, (1, 0))
            self.fails(BadRuler, {"thing": thing}, "mark", thing, (2, 0))
        for thing in NO_PLACES:
            self.fails(BadPlace, {"thing": thing}, "mark", RULER, thing)


class ChartsTest(Case):

    def test_is_straight(self):
        for chart in (CHART, TANGENT_CHART, PART_CHART):
            self.gives(True, "is_straight", chart)
            for thing in otherwise_values(chart):
                self.gives(naive.is_straight(thing), "is_straight", thing)
        for thing in NO_CHARTS:
            self.gives(False, "is_straight", thing)
        chance = random.Random(2)
        for _ in range(400):
            chart = tuple(random_ruler(chance, 1) for _ in range(3))
            self.gives(naive.is_straight(chart), "is_straight", chart)
        # Two rulers may be equal, or lie on one line.
        self.gives(True, "is_straight", (CHART[0], CHART[0], CHART[1]))
        self.gives(True, "is_straight", (CHART[1], CHART[0], LINE[1]))
        self.gives(True, "is_straight", (CHART[0], CHART[1], LINE[1]))

    def test_relation_and_reading(self):
        for chart in [CHART, TANGENT_CHART, PART_CHART] + random_charts(3, 60) + random_charts(4, 6, MILLION):
            cube = self.call("straight_relation", chart)
            self.assertEqual(cube, naive.straight_relation(chart))
            for places in itertools.product(PLACES, repeat=3):
                triples = [triple_at(ruler, place) for ruler, place in zip(chart, places)]
                expected = naive.determinant(triples) == 0
                self.assertEqual(naive.value(cube, places) == 0, expected)
                if sum(places[0]) % 2:
                    self.gives(expected, "straight_reads", chart, places)

    def test_examples(self):
        self.gives((1, 0, 0, 0, 0, 0, 0, 1), "straight_relation", CHART)

    def test_the_sign_is_shortened(self):
        turned = (CHART[1], CHART[0], CHART[2])
        self.gives((1, 0, 0, 0, 0, 0, 0, 1), "straight_relation", turned)
        self.gives((1, 0, 0, 0, 0, 0, 0, 1), "straight_relation", (CHART[0], CHART[1], ((0, 0, -7), (-7, 0, 0))))

    def test_errors(self):
        for thing in NO_CHARTS:
            self.fails(BadChart, {"thing": thing}, "straight_relation", thing)
            self.fails(BadChart, {"thing": thing}, "straight_reads", thing, ((1, 0),) * 3)
            self.fails(BadChart, {"thing": thing}, "straight_reads", thing, None)
        for thing in [*ODD_VALUES, ((1, 0),) * 2, ((1, 0),) * 4, [(1, 0)] * 3, ((1, 0), (1, 0), (2, 0)),
                      ((1, 0), (1, 0), (1, True)), ((1, 0), (1, 0), [1, 0])]:
            if thing != ((1, 0), (0, 1), (1, 1)):
                self.fails(BadPlaces, {"thing": thing}, "straight_reads", CHART, thing)


def expected_kind(cube):
    number = naive.discriminant(naive.form(cube, 0))
    if number < 0 or naive.math.isqrt(number) ** 2 != number:
        return ("none", "square")
    return ("none", "parts") if naive.has_three_parts(cube) else "chart"


class JudgeTest(Case):

    def check(self, cube):
        found = self.call("judge_straight", cube)
        self.assertTrue(naive.straight_holds(cube, found), (cube, found))
        self.gives(True, "straight_holds", cube, found)
        kind = expected_kind(cube)
        self.assertEqual(found if kind != "chart" else found[0], kind)
        return found

    def test_each_sort(self):
        kinds = {}
        for sort, cube in all_cubes():
            kinds.setdefault(sort, set()).add(self.check(cube)[0])
        self.assertEqual(kinds[("parts",)], {"none"})
        self.assertEqual(kinds[("full", -1)], {"none"})
        for sort in (("tangent",), ("full", 1), ("part", 0), ("part", 1), ("part", 2)):
            self.assertEqual(kinds[sort], {"chart"})

    def test_small_and_great_cubes(self):
        for at, cube in enumerate(itertools.product((-1, 0, 1), repeat=8)):
            if at % 5 == 0 and any(cube) and naive.short(cube) == cube:
                self.check(cube)
        for cube in random_cubes(7, 200, 100):
            self.check(cube)

    def test_cubes_of_charts_and_changed_cubes(self):
        for chart in random_charts(8, 60) + random_charts(9, 6, MILLION):
            cube = naive.straight_relation(chart)
            found = self.check(cube)
            self.assertEqual(found[0], "chart")
            numbers = [number for ruler in found[1] for triple in ruler for number in triple]
            self.assertTrue(all(abs(number) < 10 ** 4000 for number in numbers))
        for _, cube in all_cubes():
            self.check(naive.changed(cube, ((2, 1, 1, 1), (0, 3, -2, 1), (1, 5, 0, 7))))

    def test_great_cayley_numbers_are_no_square_class(self):
        # A square class of such a number cannot be found, and need not be.
        prime, other = 10 ** 18 + 9, 10 ** 18 + 3
        self.check((0, 1, 1, 0, 1, 0, 0, prime * other))
        self.check((prime, 0, 0, 0, 0, 0, 0, other))
        self.gives(None, "both_charts", (0, 1, 1, 0, 1, 0, 0, prime * other))

    def test_one_thing_otherwise(self):
        cubes = [cubes[0] for cubes in KINDS.values()] + [KINDS[("full", 1)][2]]
        for cube in cubes:
            certificate = self.call("judge_straight", cube)
            for thing in otherwise_values(certificate):
                self.gives(naive.straight_holds(cube, thing), "straight_holds", cube, thing)
        things = [("none", "parts"), ("none", "square"), ("none", "none"), ("none", ("parts",)), ("none",),
                  ("none", ""), ("chart", "parts"), ("square", "none"), ["none", "square"], ("none", "square", 0),
                  ("none", 1), ("chart", LINE), ("chart", list(CHART))]
        charts = (CHART, TANGENT_CHART, PART_CHART)
        things += [("chart", chart) for chart in charts]
        for _, cube in all_cubes() + [(None, naive.straight_relation(chart)) for chart in charts]:
            for thing in things + list(ODD_VALUES):
                self.gives(naive.straight_holds(cube, thing), "straight_holds", cube, thing)

    def test_multiples_and_led_charts_hold(self):
        for chart in (CHART, TANGENT_CHART, PART_CHART):
            cube = naive.straight_relation(chart)
            map_of = (1, 2, 0, 0, 1, 5, 1, 0, 3)
            led = tuple(naive_led(map_of, ruler, factor) for ruler, factor in zip(chart, (2, -3, 5)))
            self.gives(True, "straight_holds", cube, ("chart", led))
            self.gives(False, "straight_holds", cube, ("chart", led[:2] + (led[2][::-1],)))

    def test_errors(self):
        for thing in NO_CUBES:
            self.fails(BadCube, {"thing": thing}, "judge_straight", thing)
            self.fails(BadCube, {"thing": thing}, "straight_holds", thing, ("none", "parts"))
            self.fails(BadCube, {"thing": thing}, "straight_holds", thing, None)
            self.fails(BadCube, {"thing": thing}, "both_charts", thing)


class AlikeChartsTest(Case):

    def check(self, one, other):
        expected = naive.straight_relation(one) == naive.straight_relation(other) and naive_alike(one, other)
        self.gives(expected, "are_alike_charts", one, other)
        return expected

    def test_both_charts(self):
        cubes = [cube for _, cube in all_cubes()] + random_cubes(10, 40, 3)
        cubes += [naive.straight_relation(chart) for chart in random_charts(11, 40)]
        two = 0
        for cube in cubes:
            found = self.call("both_charts", cube)
            number = naive.discriminant(naive.form(cube, 0))
            if number <= 0 or naive.math.isqrt(number) ** 2 != number:
                self.assertIsNone(found)
                continue
            two += 1
            self.assertIs(type(found), tuple)
            self.assertEqual(len(found), 2)
            for chart in found:
                self.assertTrue(naive.is_straight(chart))
                self.assertEqual(naive.straight_relation(chart), cube)
            self.assertFalse(self.check(found[0], found[1]))
            self.assertFalse(self.check(found[1], found[0]))
            own = self.call("judge_straight", cube)[1]
            self.assertEqual([self.check(own, chart) for chart in found].count(True), 1)
        self.assertGreater(two, 20)

    def test_led_charts(self):
        chance = random.Random(12)
        for chart in [CHART, TANGENT_CHART, PART_CHART] + random_charts(13, 20):
            for map_of in ((1, 2, 0, 0, 1, 5, 1, 0, 3), (0, 1, 0, 0, 0, 1, 1, 0, 0)):
                factors = [chance.choice((1, -1, 2, -5)) for _ in range(3)]
                led = tuple(naive_led(map_of, ruler, factor) for ruler, factor in zip(chart, factors))
                self.gives(True, "are_alike_charts", chart, led)
                self.gives(True, "are_alike_charts", led, chart)
                moved = led[:2] + ((led[2][0], tuple(2 * number for number in led[2][1])),)
                self.check(chart, moved)

    def test_tangent_charts_of_one_cube(self):
        charts = [TANGENT_CHART, (((1, 0, 7), (0, 0, 1)), ((0, 1, -4), (0, 0, 1)), ((1, 1, 3), (0, 0, 2)))]
        cube = naive.straight_relation(TANGENT_CHART)
        charts.append(self.call("judge_straight", cube)[1])
        self.assertEqual(naive.sort(cube), ("tangent",))
        for one, other in itertools.product(charts, repeat=2):
            self.assertTrue(self.check(one, other))

    def test_crossings(self):
        # The ruler of the dial 0 meets the line of the two others at ((a, b, 0), the mark of the dial 1 at (a, b)).
        def chart(dial, place):
            others = [((1, 0, 0), (0, 1, 0)), ((0, 1, 0), (-1, 0, 0))]
            others.insert(dial, ((0, 0, 1), place + (0,)))
            return tuple(others)

        for dial in range(3):
            crossings = {place: chart(dial, place) for place in PLACES}
            self.assertEqual(naive.sort(naive.straight_relation(crossings[(1, 0)])), ("part", dial))
            for one, other in itertools.product(PLACES, repeat=2):
                self.assertEqual(self.check(crossings[one], crossings[other]), one == other)
                other_multiple = chart(dial, tuple(-3 * number for number in other))
                moved = list(other_multiple)
                moved[dial] = ((5, 4, -3), moved[dial][1])
                if naive.straight_relation(moved) == naive.straight_relation(crossings[one]):
                    self.check(crossings[one], tuple(moved))

    def test_other_cubes(self):
        charts = [CHART, TANGENT_CHART, PART_CHART] + random_charts(14, 12)
        for one, other in itertools.product(charts, repeat=2):
            self.check(one, other)

    def test_errors(self):
        for thing in NO_CHARTS:
            self.fails(BadChart, {"thing": thing}, "are_alike_charts", thing, CHART)
            self.fails(BadChart, {"thing": thing}, "are_alike_charts", thing, "no chart")
            self.fails(BadChart, {"thing": thing}, "are_alike_charts", CHART, thing)


if __name__ == "__main__":
    unittest.main()
