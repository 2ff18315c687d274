"""[3.1] forms and Cayley's number, [3.2] sorts, [3.3] standard cubes, [3.4] alike cubes."""

import itertools
import random
import time
import unittest
from rulertrees.errors import BadCube, BadDial
from tests import naive
from tests.helpers import Case, ODD_VALUES, otherwise_values

PRODUCT = (0, 1, 0, 0, 0, 0, -1, 0)
STAY = (1, 0, 0, 1)
CHANGES = (STAY, (0, 1, 1, 0), (-6, 3, 3, 0), (1, 5, 0, 1), (4, -2, 2, 8), (1, 0, 1, -1), (2, 1, 1, 1), (0, -3, 5, 2))
# Cubes of each sort that are no products alone.
KINDS = {
    ("parts",): ((1, 0, 0, 0, 0, 0, 0, 0), (0, 0, 0, 0, 0, 0, 0, 1), (6, -3, 4, -2, 12, -6, 8, -4)),
    ("part", 0): ((0, 1, -1, 0, 0, 0, 0, 0), (1, 2, 3, 4, 2, 4, 6, 8)),
    ("part", 1): ((1, 2, 3, 6, 3, 4, 9, 12), (0, 0, 1, 0, 0, 0, 0, 1)),
    ("part", 2): ((1, 1, 2, 2, 3, 3, 4, 4), (0, 0, 0, 1, 0, 1, 0, 0)),
    ("tangent",): ((0, 1, 1, 0, 1, 0, 0, 0), (0, 0, 0, 1, 0, 1, -1, 0), (2, -1, 10, -7, 1, -1, 5, -6)),
    ("full", 1): (PRODUCT, (1, 0, 0, 0, 0, 0, 0, 1), (0, 1, 1, 0, 1, 0, 0, 1), (0, 1, -1, 0, -1, 0, 0, 4)),
    ("full", -1): ((1, 0, 0, -1, 0, -1, -1, 0), (0, 1, 1, 0, 1, 0, 0, -1), (0, 1, 1, 0, 1, 0, 0, -9)),
    ("full", 2): ((0, 1, 1, 0, 1, 0, 0, 2), (0, 1, 1, 0, 1, 0, 0, 8)),
    ("full", -30030): ((0, 1, 1, 0, 1, 0, 0, -30030),),
}


def all_cubes():
    return [(naive.sort(cube), cube) for cubes in KINDS.values() for cube in cubes]


def is_cube(thing):
    return naive.is_ints(thing, 8) and bool(naive.is_short(thing))


NO_CUBES = [thing for thing in ODD_VALUES if not is_cube(thing)] + [
    (1, 0), (0, 1, -1, 0), (0, 1) + (0,) * 14, (0, -1, 0, 0, 0, 0, 1, 0), (0, 2, 0, 0, 0, 0, -2, 0), list(PRODUCT)]


def random_cubes(seed, many, bound=9):
    chance = random.Random(seed)
    return [naive.short([chance.randrange(-bound, bound) for _ in range(7)] + [bound]) for _ in range(many)]


class FormsTest(Case):

    def test_forms_of_all_dials(self):
        for cube in [cube for _, cube in all_cubes()] + random_cubes(1, 200) + random_cubes(2, 60, 10000):
            for dial in range(3):
                self.gives(naive.form(cube, dial), "form_of", cube, dial)
            numbers = {naive.discriminant(naive.form(cube, dial)) for dial in range(3)}
            self.gives(numbers.pop(), "cayley", cube)
            self.assertEqual(numbers, set())

    def test_the_form_of_the_document(self):
        t = (3, -1, 4, 1, -5, 9, 2, 6)
        self.gives((t[0] * t[3] - t[1] * t[2], t[0] * t[7] + t[4] * t[3] - t[1] * t[6] - t[5] * t[2],
                    t[4] * t[7] - t[5] * t[6]), "form_of", t, 0)

    def test_forms_of_changed_cubes(self):
        for cube in random_cubes(3, 20):
            for changes in itertools.islice(itertools.product(CHANGES, repeat=3), 0, None, 37):
                items = naive.changed_items(cube, changes)
                divisor = next(a // b for a, b in zip(items, naive.short(items)) if b)
                deeds = [p * s - q * r for p, q, r, s in changes]
                self.gives(naive.discriminant(naive.form(cube, 0)) * (deeds[0] * deeds[1] * deeds[2]) ** 2
                           // divisor ** 4, "cayley", naive.short(items))
                expected = tuple(number * deeds[1] * deeds[2] // divisor ** 2
                                 for number in naive.led_form(naive.form(cube, 0), changes[0]))
                self.gives(expected, "form_of", naive.short(items), 0)

    def test_examples(self):
        self.gives((0, 1, 0), "form_of", PRODUCT, 0)
        self.gives(-4, "cayley", (1, 0, 0, -1, 0, -1, -1, 0))

    def test_errors(self):
        for thing in NO_CUBES:
            self.fails(BadCube, {"thing": thing}, "form_of", thing, 0)
            self.fails(BadCube, {"thing": thing}, "form_of", thing, None)
            self.fails(BadCube, {"thing": thing}, "cayley", thing)
            self.fails(BadCube, {"thing": thing}, "sort_of", thing)
        for dial in (-1, 3, True, False, None, "0", (0,), [0], 10 ** 30):
            self.fails(BadDial, {"dial": dial}, "form_of", PRODUCT, dial)


class SortsTest(Case):

    def test_each_sort(self):
        for sort, cubes in KINDS.items():
            for cube in cubes:
                self.gives(sort, "sort_of", cube)
                self.assertEqual(naive.sort(cube), sort)

    def test_all_small_cubes(self):
        for cube in itertools.product((-1, 0, 1), repeat=8):
            if any(cube) and naive.short(cube) == cube:
                self.gives(naive.sort(cube), "sort_of", cube)

    def test_great_cayley_numbers(self):
        # The square classes of Cayley's numbers, most of them with great prime divisors, were found ahead.
        known = {
            (3027, 2786, 2015, -180, -945, -2225, 2003, 2468): 95154817084009,
            (2848, -2109, 2829, 2938, -1060, 2378, -2277, -257): -89657831563199,
            (1250, 1249, -3054, -3141, -2510, 2425, 2751, -1702): 3954053 * 23653997,
            (1271, -2127, -3283, -2029, -666, -848, -1784, 1817): -1090403 * 87703013,
            (1111, -2824, -1136, 784, 2473, 789, -2796, 2954): 23019354010409,
            (1483, -1293, -1, -3157, -1700, 2981, 3060, 1619): -21224963164879,
            (1009, 0, 0, 0, 0, 9973, 9949, 9907): 1,
            (2999, 0, 0, 2999, 0, 1667, -1667, 0): -1,
        }
        start = time.process_time()
        for cube, s in known.items():
            self.assertLessEqual(abs(naive.discriminant(naive.form(cube, 0))), 10 ** 14)
            self.gives(("full", s), "sort_of", cube)
            other = naive.changed(cube, ((2, 1, 1, 1), STAY, (0, 1, -1, 0)))
            found = self.call("judge_alike", cube, other)
            self.gives(True, "alike_holds", cube, other, found)
        self.assertLess(time.process_time() - start, 20)

    def test_examples(self):
        self.gives(("full", 1), "sort_of", PRODUCT)
        self.gives(("tangent",), "sort_of", (0, 0, 0, 1, 0, 1, -1, 0))
        self.gives(("full", -1), "sort_of", (1, 0, 0, -1, 0, -1, -1, 0))
        self.gives(("part", 0), "sort_of", (0, 1, -1, 0, 0, 0, 0, 0))


class StandardTest(Case):

    def test_standard(self):
        for s in (0, 1, -1, 2, -2, 3, 5, -30030, 10 ** 9 + 7):
            self.gives((0, 1, 1, 0, 1, 0, 0, s), "standard", s)
            self.gives(4 * s, "cayley", self.call("standard", s))
            self.gives(("full", s) if s else ("tangent",), "sort_of", self.call("standard", s))


class AlikeTest(Case):

    def check(self, one, other):
        found = self.call("judge_alike", one, other)
        self.gives(True, "alike_holds", one, other, found)
        self.assertTrue(naive.alike_holds(one, other, found))
        self.assertEqual(found[0], "alike" if naive.sort(one) == naive.sort(other) else "unlike")
        self.assertTrue(all(len(str(number)) < 4000 for change in found[1] if found[0] == "alike" for number in change))

    def test_two_cubes_of_each_sort(self):
        for (_, one), (_, other) in itertools.product(all_cubes(), repeat=2):
            self.check(one, other)

    def test_changed_cubes(self):
        chance = random.Random(5)
        for _, cube in all_cubes():
            for _ in range(12):
                changes = tuple(chance.choice(CHANGES) for _ in range(3))
                self.check(cube, naive.changed(cube, changes))
                self.check(naive.changed(cube, changes), cube)

    def test_all_small_cubes_with_a_normal_one(self):
        normal = {("parts",): (1, 0, 0, 0, 0, 0, 0, 0), ("tangent",): (0, 1, 1, 0, 1, 0, 0, 0),
                  ("part", 0): (1, 0, 0, 1, 0, 0, 0, 0), ("part", 1): (1, 0, 0, 0, 0, 1, 0, 0),
                  ("part", 2): (1, 0, 0, 0, 0, 0, 1, 0)}
        for cube in itertools.product((-1, 0, 1), repeat=8):
            if any(cube) and naive.short(cube) == cube:
                sort = naive.sort(cube)
                other = normal.get(sort) or (0, 1, 1, 0, 1, 0, 0, sort[1])
                found = self.call("judge_alike", cube, other)
                self.assertEqual(found[0], "alike")
                self.assertEqual(naive.changed(cube, found[1]), other)

    def test_great_items(self):
        for cube in random_cubes(6, 12, 2000):
            number = naive.discriminant(naive.form(cube, 0))
            if 0 < abs(number) <= 10 ** 14:
                self.check(cube, naive.changed(cube, ((2, 1, 1, 1), (1, 3, 0, 1), (0, 1, -1, 0))))

    def test_one_thing_otherwise(self):
        pairs = [(cubes[0], cubes[-1]) for cubes in KINDS.values()]
        pairs += [(PRODUCT, (0, 1, 1, 0, 1, 0, 0, 2)), (KINDS[("part", 0)][0], KINDS[("part", 1)][0]),
                  (KINDS[("parts",)][0], KINDS[("tangent",)][0])]
        for one, other in pairs:
            for thing in otherwise_values(self.call("judge_alike", one, other)):
                self.gives(naive.alike_holds(one, other, thing), "alike_holds", one, other, thing)

    def test_multiples_of_changes_hold(self):
        one, other = PRODUCT, (0, 1, 1, 0, 1, 0, 0, 1)
        changes = ((1, 1, 1, -1), (1, 1, 1, -1), (1, -1, 1, 1))
        for many in (1, -1, 3, 10 ** 35):
            first = tuple(many * number for number in changes[0])
            self.gives(True, "alike_holds", one, other, ("alike", (first,) + changes[1:]))
        self.gives(False, "alike_holds", one, other, ("alike", (changes[0], changes[2], changes[1])))
        self.gives(False, "alike_holds", one, other, ("alike", changes[:2]))
        self.gives(False, "alike_holds", one, other, ("alike", list(changes)))

    def test_bools_for_numbers(self):
        two = (0, 1, 1, 0, 1, 0, 0, 2)
        self.gives(True, "alike_holds", PRODUCT, two, ("unlike", ("full", 1), ("full", 2)))
        self.gives(False, "alike_holds", PRODUCT, two, ("unlike", ("full", True), ("full", 2)))
        self.gives(False, "alike_holds", PRODUCT, two, ("unlike", ("full", 2), ("full", 1)))
        self.gives(False, "alike_holds", PRODUCT, two, ("unlike", ["full", 1], ("full", 2)))
        self.gives(False, "alike_holds", PRODUCT, PRODUCT, ("unlike", ("full", 1), ("full", 1)))
        one, other = KINDS[("part", 1)][0], KINDS[("part", 0)][0]
        self.gives(True, "alike_holds", one, other, ("unlike", ("part", 1), ("part", 0)))
        self.gives(False, "alike_holds", one, other, ("unlike", ("part", True), ("part", False)))
        stay = (STAY, STAY, STAY)
        self.gives(True, "alike_holds", PRODUCT, PRODUCT, ("alike", stay))
        self.gives(False, "alike_holds", PRODUCT, PRODUCT, ("alike", ((True, 0, 0, True), STAY, STAY)))

    def test_any_value(self):
        for thing in ODD_VALUES:
            self.gives(False, "alike_holds", PRODUCT, PRODUCT, thing)
            self.gives(False, "alike_holds", PRODUCT, (1, 0, 0, 0, 0, 0, 0, 0), thing)

    def test_examples(self):
        self.gives(True, "alike_holds", PRODUCT, (0, 1, 1, 0, 1, 0, 0, 1),
                   ("alike", ((1, 1, 1, -1), (1, 1, 1, -1), (1, -1, 1, 1))))
        self.gives(True, "alike_holds", PRODUCT, (0, 1, 1, 0, 1, 0, 0, 2), ("unlike", ("full", 1), ("full", 2)))

    def test_errors(self):
        for thing in NO_CUBES:
            self.fails(BadCube, {"thing": thing}, "judge_alike", thing, PRODUCT)
            self.fails(BadCube, {"thing": thing}, "judge_alike", thing, "no cube")
            self.fails(BadCube, {"thing": thing}, "judge_alike", PRODUCT, thing)
            self.fails(BadCube, {"thing": thing}, "alike_holds", thing, "no cube", None)
            self.fails(BadCube, {"thing": thing}, "alike_holds", PRODUCT, thing, ("alike", (STAY,) * 3))


if __name__ == "__main__":
    unittest.main()
