"""[4.4] proper cubes, [4.5] whole changes, [4.6] three forms, [4.7] certificates, [4.8] reduced cubes."""

import itertools
import random
import time
import unittest
from rulertrees.errors import BadCube, BadForm, OtherForms
from tests import naive
from tests.helpers import Case, ODD_VALUES, otherwise_values
from tests.test_cubes import NO_CUBES, random_cubes
from tests.test_gaussforms import NO_FORMS, naive_classes, random_change

STAY = (1, 0, 0, 1)
FLIP = (1, 0, 0, -1)
CUBE = (0, 1, 2, 0, 3, 0, 1, -1)
OTHER = (0, 2, 1, 0, 1, 1, 0, -3)
THIRD = (1, 1, 1, -1, 1, -1, -1, -2)


def is_proper(thing):
    if not naive.is_ints(thing, 8) or not naive.is_short(thing):
        return False
    return all(naive.is_positive(form) for form in naive.upright(thing))


def small_proper_cubes(bound):
    """All proper cubes with items at most so far from 0."""
    found = []
    for items in itertools.product(range(-bound, bound + 1), repeat=8):
        a = items[1] * items[2] - items[0] * items[3]
        if a > 0 and items[5] * items[6] - items[4] * items[7] > 0 and is_proper(items):
            found.append(items)
    return found


SMALL = small_proper_cubes(2)
IMPROPER = [cube for cube in random_cubes(1, 60) if not is_proper(cube)] + [
    (0, 1, 2, 0, -3, 0, -1, 1), (0, 1, 1, 0, 1, 0, 0, 1), (0, 1, 1, 0, 1, 0, 0, 0), (1, 0, 0, 0, 0, 0, 0, 0),
    (0, 2, 2, 0, 1, 0, 0, -1)]
NO_PROPER_CUBES = NO_CUBES + IMPROPER


class ProperTest(Case):

    def test_upright_forms(self):
        for cube in random_cubes(2, 150) + random_cubes(3, 30, 10000) + [CUBE, (1, 0, 0, 0, 0, 0, 0, 0)]:
            self.gives(naive.upright(cube), "upright_forms", cube)
        for a, b, c, d in itertools.product((1, 2, 5), (-3, 0, 4), (1, 3), (1, 7)):
            self.gives(((a, b, d * c), (d, b, a * c), (a * d, -b, c)), "upright_forms", (0, 1, a, 0, d, 0, b, -c))

    def test_is_proper(self):
        for thing in NO_PROPER_CUBES:
            self.gives(False, "is_proper", thing)
        for cube in SMALL[::5] + [CUBE, OTHER, THIRD]:
            self.gives(True, "is_proper", cube)
        for cube in random_cubes(4, 300):
            self.gives(is_proper(cube), "is_proper", cube)
        for thing in otherwise_values(CUBE):
            self.gives(is_proper(thing), "is_proper", thing)

    def test_made_proper_for_each_flip(self):
        for cube in SMALL[::9] + [CUBE, OTHER, THIRD]:
            self.gives(cube, "made_proper", cube)
            for dial in range(3):
                flips = tuple(FLIP if dial == other else STAY for other in range(3))
                flipped = naive.changed(cube, flips)
                self.gives(False, "is_proper", flipped)
                self.gives(cube, "made_proper", flipped)
            found = self.call("made_proper", naive.changed(cube, (FLIP,) * 3))
            self.assertTrue(is_proper(found))
        self.gives(CUBE, "made_proper", (0, 1, 2, 0, -3, 0, -1, 1))

    def test_exactly_one_of_the_four(self):
        flips = [(STAY,) * 3] + [tuple(FLIP if k == m else STAY for m in range(3)) for k in range(3)]
        for cube in random_cubes(5, 400, 5):
            proper = [fresh for fresh in (naive.changed(cube, some) for some in flips) if is_proper(fresh)]
            forms = [naive.form(cube, dial) for dial in range(3)]
            expected = naive.discriminant(forms[0]) < 0 and all(
                any(form) and naive.short(form) in (form, tuple(-x for x in form)) for form in forms)
            self.assertEqual(len(proper), int(expected))
            self.gives(proper[0] if proper else None, "made_proper", cube)

    def test_no_proper_cube(self):
        for cube in ((0, 1, 1, 0, 1, 0, 0, 1), (0, 1, 1, 0, 1, 0, 0, 0), (1, 0, 0, 0, 0, 0, 0, 0),
                     (0, 2, 2, 0, 1, 0, 0, -1), (1, 0, 0, 2, 0, 2, -4, 0)):
            self.gives(None, "made_proper", cube)

    def test_errors(self):
        for thing in NO_CUBES:
            self.fails(BadCube, {"thing": thing}, "upright_forms", thing)
            self.fails(BadCube, {"thing": thing}, "made_proper", thing)


class CubesOfTest(Case):

    def test_against_all_small_cubes(self):
        by_forms = {}
        for cube in SMALL:
            by_forms.setdefault(naive.upright(cube), []).append(cube)
        self.assertGreater(len(by_forms), 500)
        for forms, cubes in by_forms.items():
            found = self.call("cubes_of", *forms)
            self.assertEqual([cube for cube in found if max(map(abs, cube)) <= 2], sorted(cubes))
            number = naive.discriminant(forms[0])
            self.assertEqual(len(found), {-3: 3, -4: 2}.get(number, 1))
            for cube in found:
                self.assertEqual(naive.upright(cube), forms)

    def test_all_triples_of_classes(self):
        for number in (-3, -4, -15, -20, -23, -39, -56, -84):
            classes = naive_classes(number)
            first = self.call("first_form", number)
            for forms in itertools.product(classes, repeat=3):
                found = self.call("cubes_of", *forms)
                together = self.call("product_class", self.call("product_class", *forms[:2]), forms[2])
                self.assertEqual(len(found), {-3: 3, -4: 2}.get(number, 1) if together == first else 0)
                self.assertEqual(found, tuple(sorted(set(found))))
                for cube in found:
                    self.assertTrue(is_proper(cube))
                    self.assertEqual(naive.upright(cube), forms)

    def test_forms_that_are_not_reduced(self):
        chance = random.Random(6)
        for number in (-3, -4, -7, -23, -47, -231):
            classes = naive_classes(number)
            for one, other in itertools.product(classes[:4], repeat=2):
                third = self.call("product_class", one, other)
                forms = (one, other, (third[0], -third[1], third[2]))
                forms = tuple(naive.led_form(form, random_change(chance, 4)) for form in forms)
                found = self.call("cubes_of", *forms)
                self.assertEqual(len(found), {-3: 3, -4: 2}.get(number, 1))
                self.assertEqual(found, tuple(sorted(set(found))))
                for cube in found:
                    self.assertEqual(naive.upright(cube), forms)

    def test_great_forms(self):
        a, b, c, d = 999983, 10 ** 6 - 3, 999979, 999961
        forms = ((a, b, d * c), (d, b, a * c), (a * d, -b, c))
        self.gives(((0, 1, a, 0, d, 0, b, -c),), "cubes_of", *forms)
        self.gives((), "cubes_of", forms[0], forms[1], (a * d, b, c))

    def test_examples(self):
        self.gives((OTHER,), "cubes_of", (2, 1, 3), (2, -1, 3), (1, 1, 6))
        self.gives((THIRD,), "cubes_of", (2, 1, 3), (2, 1, 3), (2, 1, 3))
        self.gives((), "cubes_of", (2, 1, 3), (2, 1, 3), (1, 1, 6))
        self.assertEqual(len(self.call("cubes_of", (1, 0, 1), (1, 0, 1), (1, 0, 1))), 2)
        self.assertEqual(len(self.call("cubes_of", (1, 1, 1), (1, 1, 1), (1, 1, 1))), 3)

    def test_errors(self):
        good = (2, 1, 3)
        for thing in NO_FORMS:
            self.fails(BadForm, {"thing": thing}, "cubes_of", thing, None, None)
            self.fails(BadForm, {"thing": thing}, "cubes_of", good, thing, "no form")
            self.fails(BadForm, {"thing": thing}, "cubes_of", good, (1, 0, 1), thing)
        self.fails(OtherForms, {}, "cubes_of", good, good, (1, 0, 1))
        self.fails(OtherForms, {}, "cubes_of", good, (1, 0, 1), good)
        self.fails(OtherForms, {}, "cubes_of", (1, 0, 1), good, good)


class WhollyAlikeTest(Case):

    def check(self, one, other):
        found = self.call("judge_whole", one, other)
        self.gives(True, "whole_holds", one, other, found)
        self.assertTrue(naive.whole_holds(one, other, found))
        classes = [[self.call("class_of", form) for form in naive.upright(cube)] for cube in (one, other)]
        self.assertEqual(found[0], "whole" if classes[0] == classes[1] else "apart")
        return found

    def test_changed_by_whole_changes(self):
        chance = random.Random(7)
        for cube in SMALL[::11] + [CUBE, OTHER, THIRD, (0, 1, 1, 0, 1, 0, 0, -1), (0, 1, 1, 1, 1, 1, 1, 0)]:
            changes = tuple(random_change(chance, 4) for _ in range(3))
            fresh = naive.changed(cube, changes)
            self.assertEqual(naive.upright(fresh), tuple(map(naive.led_form, naive.upright(cube), changes)))
            self.gives(True, "is_proper", fresh)
            self.assertEqual(self.check(cube, fresh)[0], "whole")
            self.assertEqual(self.check(fresh, cube)[0], "whole")

    def test_all_cubes_of_the_discriminants_with_turns(self):
        for number in (-3, -4):
            cubes = [cube for cube in SMALL if naive.discriminant(naive.upright(cube)[0]) == number]
            self.assertGreater(len(cubes), 10)
            for one, other in itertools.product(cubes[::3], cubes[::7]):
                self.assertEqual(self.check(one, other)[0], "whole")

    def test_both_kinds(self):
        kinds = {self.check(one, other)[0] for one, other in itertools.product(SMALL[::97], SMALL[::89])}
        self.assertEqual(kinds, {"whole", "apart"})

    def test_one_thing_otherwise(self):
        pairs = [(CUBE, OTHER), (CUBE, CUBE), (OTHER, THIRD), (CUBE, THIRD), ((0, 1, 1, 0, 1, 0, 0, -1), CUBE),
                 ((0, 1, 1, 1, 1, 1, 1, 0), (1, 0, 0, -1, 0, -1, -1, -1))]
        for one, other in pairs:
            for thing in otherwise_values(self.call("judge_whole", one, other)):
                self.gives(naive.whole_holds(one, other, thing), "whole_holds", one, other, thing)

    def test_changes_that_are_not_whole(self):
        double = (2, 0, 0, 2)
        minus = (-1, 0, 0, -1)
        self.gives(True, "whole_holds", CUBE, CUBE, ("whole", (STAY, STAY, STAY)))
        self.gives(True, "whole_holds", CUBE, CUBE, ("whole", (minus, STAY, STAY)))
        self.gives(False, "whole_holds", CUBE, CUBE, ("whole", (double, STAY, STAY)))
        self.gives(False, "whole_holds", CUBE, CUBE, ("whole", ((True, 0, 0, True), STAY, STAY)))
        self.gives(False, "whole_holds", CUBE, CUBE, ("whole", [STAY, STAY, STAY]))
        flipped = naive.changed(CUBE, (FLIP, FLIP, STAY))
        self.gives(is_proper(flipped), "is_proper", flipped)
        self.gives(False, "whole_holds", CUBE, naive.changed(CUBE, (FLIP,) * 3), ("whole", (FLIP,) * 3))

    def test_apart(self):
        self.gives(True, "whole_holds", OTHER, THIRD, ("apart", 1, STAY, STAY))
        self.gives(True, "whole_holds", OTHER, THIRD, ("apart", 2, STAY, STAY))
        self.gives(False, "whole_holds", OTHER, THIRD, ("apart", 0, STAY, STAY))
        self.gives(False, "whole_holds", OTHER, THIRD, ("apart", True, STAY, STAY))
        self.gives(False, "whole_holds", OTHER, THIRD, ("apart", 3, STAY, STAY))
        self.gives(False, "whole_holds", OTHER, THIRD, ("apart", -2, STAY, STAY))
        self.gives(False, "whole_holds", OTHER, THIRD, ("apart", 1, (1, 1, 0, 1), STAY))
        self.gives(False, "whole_holds", OTHER, THIRD, ("apart", 1, STAY, (2, 0, 0, 2)))
        self.gives(False, "whole_holds", CUBE, OTHER, ("apart", 1, STAY, (0, -1, 1, 0)))
        # Reduced forms with a equal to c, or b equal to a, have just one sign of b.
        self.gives(False, "whole_holds", CUBE, CUBE, ("apart", 0, STAY, STAY))

    def test_any_value(self):
        for thing in ODD_VALUES:
            self.gives(False, "whole_holds", CUBE, CUBE, thing)
            self.gives(False, "whole_holds", OTHER, THIRD, thing)

    def test_examples(self):
        turn, back, wrong = (0, -1, 1, 0), (0, 1, -1, 0), (0, 1, 1, 0)
        self.gives(True, "whole_holds", CUBE, OTHER, ("whole", (STAY, turn, turn)))
        self.gives(True, "whole_holds", CUBE, OTHER, ("whole", (STAY, back, turn)))
        self.gives(False, "whole_holds", CUBE, OTHER, ("whole", (STAY, wrong, wrong)))

    def test_errors(self):
        for thing in NO_PROPER_CUBES:
            self.fails(BadCube, {"thing": thing}, "judge_whole", thing, CUBE)
            self.fails(BadCube, {"thing": thing}, "judge_whole", thing, "no cube")
            self.fails(BadCube, {"thing": thing}, "judge_whole", CUBE, thing)
            self.fails(BadCube, {"thing": thing}, "whole_holds", thing, "no cube", None)
            self.fails(BadCube, {"thing": thing}, "whole_holds", CUBE, thing, ("whole", (STAY,) * 3))
            self.fails(BadCube, {"thing": thing}, "reduced_cube", thing)


class ReducedCubesTest(Case):

    def test_reduced_cube(self):
        by_forms = {}
        for cube in SMALL:
            by_forms.setdefault(tuple(self.call("class_of", form) for form in naive.upright(cube)), []).append(cube)
        for forms, cubes in list(by_forms.items())[::5]:
            expected = self.call("cubes_of", *forms)[0]
            self.gives(expected, "reduced_cube", expected)
            for cube in cubes[::9]:
                self.gives(expected, "reduced_cube", cube)
                self.assertEqual(self.call("judge_whole", cube, expected)[0], "whole")
        self.gives(OTHER, "reduced_cube", CUBE)

    def test_reduced_cubes(self):
        start = time.process_time()
        for number, many in ((-3, 1), (-4, 1), (-7, 1), (-8, 1), (-15, 2), (-23, 3), (-47, 5), (-84, 4), (-231, 12),
                             (-479, 25), (-500, 10), (-499, 3)):
            found = self.call("reduced_cubes", number)
            self.assertEqual(len(found), many * many)
            self.assertEqual(found, tuple(sorted(set(found))))
            for cube in found[::7]:
                self.assertTrue(all(naive.is_reduced(form) for form in naive.upright(cube)))
                self.gives(number, "cayley", cube)
                self.gives(cube, "reduced_cube", cube)
        self.assertLess(time.process_time() - start, 60)

    def test_the_first_of_the_cubes_with_turns(self):
        self.gives((self.call("cubes_of", (1, 0, 1), (1, 0, 1), (1, 0, 1))[0],), "reduced_cubes", -4)
        self.gives(((0, 1, 1, 0, 1, 0, 0, -1),), "reduced_cubes", -4)
        self.gives(((0, 1, 1, 1, 1, 1, 1, 0),), "reduced_cubes", -3)

    def test_every_pair_of_classes(self):
        found = self.call("reduced_cubes", -23)
        pairs = [naive.upright(cube)[:2] for cube in found]
        self.assertEqual(sorted(pairs), sorted(itertools.product(naive_classes(-23), repeat=2)))

    def test_each_cube_is_wholly_alike_to_one(self):
        found = self.call("reduced_cubes", -20)
        for cube in SMALL:
            if naive.discriminant(naive.upright(cube)[0]) == -20:
                alike = [other for other in found if self.call("judge_whole", cube, other)[0] == "whole"]
                self.assertEqual(alike, [self.call("reduced_cube", cube)])


if __name__ == "__main__":
    unittest.main()
