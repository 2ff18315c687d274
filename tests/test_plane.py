"""[5.1] points and lines, [5.2] plane maps, [5.3] the bow."""

import itertools
import random
import unittest
from rulertrees.errors import BadMap, BadPlace, BadPoint
from tests import naive
from tests.helpers import Case, ODD_VALUES, otherwise_values
from tests.test_places import NO_PLACES, is_place, some_places

BILLION = 10 ** 9
SMALL = [triple for triple in itertools.product((-1, 0, 1, 2), repeat=3) if naive.is_short(triple)]
GREAT = [(BILLION, 1, 0), (BILLION, -BILLION, 999999937), (1, BILLION, BILLION - 1), (0, 0, 1), (0, 1, -BILLION)]
MAPS = ((1, 0, 0, 0, 1, 0, 0, 0, 1), (0, 1, 0, 0, 0, 1, 1, 0, 0), (2, 0, 0, 0, 2, 0, 0, 0, 2), (1, 2, 3, 0, 1, 4, 5, 6, 0),
        (-1, 0, 0, 0, 3, 0, 7, 0, 2), (BILLION, 1, 0, 0, BILLION, 1, 1, 0, -BILLION))


def is_point(thing):
    return naive.is_ints(thing, 3) and bool(naive.is_short(thing))


def is_map(thing):
    return naive.is_ints(thing, 9) and naive.determinant((thing[:3], thing[3:6], thing[6:])) != 0


def dot(one, other):
    return sum(a * b for a, b in zip(one, other))


NO_POINTS = [thing for thing in ODD_VALUES if not is_point(thing)]
NO_MAPS = [thing for thing in ODD_VALUES if not is_map(thing)] + [
    (1, 0, 0, 0, 1, 0, 1, 1, 0), (0,) * 9, [1, 0, 0, 0, 1, 0, 0, 0, 1], (1, 0, 0, 0, 1, 0, 0, 0, True),
    ((1, 0, 0), (0, 1, 0), (0, 0, 1)), (1, 0, 0, 0, 1, 0, 0, 0, 1, 0)]


class PointsTest(Case):

    def test_is_point(self):
        for triple in itertools.product(range(-3, 4), repeat=3):
            self.gives(is_point(triple), "is_point", triple)
        for thing in ODD_VALUES:
            self.gives(is_point(thing), "is_point", thing)
        for thing in otherwise_values((2, 0, -3)):
            self.gives(is_point(thing), "is_point", thing)
        for triple in GREAT:
            self.gives(True, "is_point", triple)

    def test_lies_on(self):
        for point, line in itertools.product(SMALL + GREAT, repeat=2):
            self.gives(dot(point, line) == 0, "lies_on", point, line)
        self.gives(True, "lies_on", (BILLION, 1, 0), (1, -BILLION, 7))

    def test_line_and_meeting(self):
        for name in ("line_through", "meeting"):
            for one, other in itertools.product(SMALL[::2] + GREAT, repeat=2):
                found = self.call(name, one, other)
                if one == other:
                    self.assertIsNone(found)
                else:
                    self.assertTrue(is_point(found))
                    self.assertEqual((dot(found, one), dot(found, other)), (0, 0))
            self.gives((0, 0, 1), name, (1, 0, 0), (0, 1, 0))
            self.gives((1, -1, 0), name, (1, 1, 2), (1, 1, 0))

    def test_are_in_line(self):
        for points in itertools.product(SMALL[::3] + GREAT[:1], repeat=3):
            self.gives(naive.determinant(points) == 0, "are_in_line", points)
        chance = random.Random(1)
        for _ in range(300):
            points = tuple(chance.choice(SMALL[::4]) for _ in range(chance.randrange(4, 7)))
            self.gives(naive.rank([list(point) for point in points]) <= 2, "are_in_line", points)
        line = tuple(naive.short((1, k, 3 * k - 1)) for k in range(8))
        self.gives(True, "are_in_line", line)
        self.gives(True, "are_in_line", line + line[:3])
        self.gives(False, "are_in_line", line + ((0, 0, 1),))
        self.gives(False, "are_in_line", (line[0], line[0], line[1], (0, 0, 1)))

    def test_few_points(self):
        self.gives(True, "are_in_line", ())
        for point in SMALL[:5] + GREAT:
            self.gives(True, "are_in_line", (point,))
            self.gives(True, "are_in_line", (point, point, point))
            self.gives(True, "are_in_line", (point, (1, 0, 0)))

    def test_errors(self):
        good = (1, 0, 0)
        for name in ("lies_on", "line_through", "meeting"):
            for thing in NO_POINTS:
                self.fails(BadPoint, {"thing": thing}, name, thing, good)
                self.fails(BadPoint, {"thing": thing}, name, thing, (2, 2, 2))
                self.fails(BadPoint, {"thing": thing}, name, good, thing)
        for thing in NO_POINTS:
            for at in range(4):
                points = (good,) * at + (thing, (2, 2, 2), good)
                self.fails(BadPoint, {"thing": thing}, "are_in_line", points)
            self.fails(BadPoint, {"thing": thing}, "are_in_line", ((1, 0, 0), (0, 1, 0), (0, 0, 1), thing))


class MapsTest(Case):

    def test_is_map(self):
        for thing in ODD_VALUES + MAPS + tuple(NO_MAPS):
            self.gives(is_map(thing), "is_map", thing)
        chance = random.Random(2)
        for _ in range(500):
            numbers = tuple(chance.randrange(-2, 3) for _ in range(9))
            self.gives(is_map(numbers), "is_map", numbers)
        for thing in otherwise_values(MAPS[3]):
            self.gives(is_map(thing), "is_map", thing)

    def test_led(self):
        for numbers in MAPS:
            for point in SMALL + GREAT:
                rows = (numbers[:3], numbers[3:6], numbers[6:])
                self.gives(naive.short(tuple(dot(row, point) for row in rows)), "led", numbers, point)
        self.gives((5, 17, 26), "led", (1, 2, 0, 0, 1, 5, 8, 0, 6), (1, 2, 3))

    def test_led_errors(self):
        for thing in NO_MAPS:
            self.fails(BadMap, {"thing": thing}, "led", thing, (1, 0, 0))
            self.fails(BadMap, {"thing": thing}, "led", thing, None)
        for thing in NO_POINTS:
            self.fails(BadPoint, {"thing": thing}, "led", MAPS[1], thing)

    def free(self, points):
        return all(naive.determinant(three) for three in itertools.combinations(points, 3))

    def check(self, ones, others):
        found = self.call("map_between", ones, others)
        self.assertTrue(is_map(found))
        self.assertTrue(all(len(str(number)) <= 4000 for number in found))
        rows = (found[:3], found[3:6], found[6:])
        for one, other in zip(ones, others):
            self.assertEqual(naive.short(tuple(dot(row, one) for row in rows)), other)
        return found

    def test_map_between(self):
        chance = random.Random(3)
        frames = [points for points in (tuple(chance.sample(SMALL + GREAT, 4)) for _ in range(300)) if self.free(points)]
        self.assertGreater(len(frames), 100)
        for ones, others in zip(frames, frames[1:]):
            self.check(ones, others)
        self.check(frames[0], frames[0])

    def test_multiples_alone(self):
        ones = ((1, 0, 0), (0, 1, 0), (0, 0, 1), (1, 1, 1))
        for numbers in MAPS:
            found = self.check(ones, tuple(self.call("led", numbers, point) for point in ones))
            self.assertEqual(naive.short(found), naive.short(numbers))

    def test_items_that_are_no_points(self):
        good = ((1, 0, 0), (0, 1, 0), (0, 0, 1), (1, 1, 1))
        for thing in NO_POINTS:
            for at in range(4):
                wrong = good[:at] + (thing,) + good[at + 1:]
                self.fails(BadPoint, {"thing": thing}, "map_between", wrong, good)
                self.fails(BadPoint, {"thing": thing}, "map_between", good, wrong)
                self.fails(BadPoint, {"thing": thing}, "map_between", wrong, (None,) * 4)

    def test_items_that_are_equal_or_in_line(self):
        good = ((1, 0, 0), (0, 1, 0), (0, 0, 1), (1, 1, 1))
        cases = (
            (((1, 0, 0), (1, 0, 0), (2, 2, 2), (1, 1, 1)), (1, 0, 0)),
            (((1, 0, 0), (0, 1, 0), (1, 1, 0), (2, 2, 2)), (1, 1, 0)),
            (((1, 0, 0), (0, 1, 0), (1, 0, 0), (1, 1, 1)), (1, 0, 0)),
            (((1, 0, 0), (0, 1, 0), (0, 0, 1), (0, 1, 1)), (0, 1, 1)),
            (((1, 0, 0), (0, 1, 0), (0, 0, 1), (1, 0, -5)), (1, 0, -5)),
            (((1, 0, 0), (0, 1, 0), (0, 0, 1), (1, 7, 0)), (1, 7, 0)),
            (((1, 0, 0), (0, 1, 0), (0, 0, 1), (0, 0, 1)), (0, 0, 1)),
            (((1, 0, 0), (0, 1, 0), (0, 0, 1), (0, 1, 0)), (0, 1, 0)),
        )
        for wrong, point in cases:
            self.fails(BadPoint, {"thing": point}, "map_between", wrong, good)
            self.fails(BadPoint, {"thing": point}, "map_between", good, wrong)
            self.fails(BadPoint, {"thing": point}, "map_between", wrong, (None,) * 4)

    def test_lines_are_kept(self):
        for numbers in MAPS:
            for points in itertools.product(SMALL[::6], repeat=3):
                fresh = tuple(self.call("led", numbers, point) for point in points)
                self.assertEqual(naive.determinant(fresh) == 0, naive.determinant(points) == 0)


class BowTest(Case):

    def test_bow_points(self):
        places = some_places(4) + [(BILLION, 1), (-BILLION, 999999937)]
        found = [self.call("bow_point", place) for place in places]
        for (a, b), point in zip(places, found):
            self.assertEqual(point, (a * a, a * b, b * b))
            self.assertTrue(is_point(point))
        self.assertEqual(len(set(found)), len(places))
        for three in itertools.combinations(found[:14], 3):
            self.assertNotEqual(naive.determinant(three), 0)

    def test_chords(self):
        places = some_places(3) + [(BILLION, 1), (-BILLION, 999999937)]
        for one, other in itertools.product(places, repeat=2):
            line = self.call("chord", one, other)
            self.assertTrue(is_point(line))
            for place in places:
                point = (place[0] ** 2, place[0] * place[1], place[1] ** 2)
                self.assertEqual(dot(line, point) == 0, place in (one, other))

    def test_examples(self):
        self.gives((1, -3, 2), "chord", (1, 1), (2, 1))
        self.gives((1, -2, 1), "chord", (1, 1), (1, 1))
        self.gives((0, 0, 1), "chord", (1, 0), (1, 0))
        self.gives((0, 1, 0), "chord", (1, 0), (0, 1))
        self.gives((1, 0, 0), "chord", (0, 1), (0, 1))

    def test_errors(self):
        for thing in NO_PLACES:
            self.fails(BadPlace, {"thing": thing}, "bow_point", thing)
            self.fails(BadPlace, {"thing": thing}, "chord", thing, (1, 0))
            self.fails(BadPlace, {"thing": thing}, "chord", thing, (2, 2))
            self.fails(BadPlace, {"thing": thing}, "chord", (1, 0), thing)
        self.assertFalse(is_place((2, 2)))


if __name__ == "__main__":
    unittest.main()
