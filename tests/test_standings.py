"""[12.1] standings, [12.3] how many there are, [12.4] certificates for rings."""

import itertools
import random
import time
import unittest
from rulertrees.errors import BadPlace, BadRing, BadSeam
from tests import naive
from tests import naive_rings
from tests.helpers import Case, ODD_VALUES, otherwise_values
from tests.test_places import NO_PLACES
from tests.test_rings import EIGHT, NARROW, NO_RINGS, NO_SEAMS, ONE, PART, PLACES, PRODUCT, TWO, some_rings

MANY = ((PRODUCT, (1, 1)),) * 2
NONE = (((0, 1, 0, 0, 0, 0, -2, 0), (1, 1)),)
BELOW = (((0, 1, 0, 0, 0, 0, 1, 0), (1, 1)),)
# One standing: the entry and the exit differ by 1, and a ring of one link leads each place to the next one.
SINGLE = (((0, 0, 0, 1, 0, -1, 0, 1), (1, 1)),)


def link_through(chance, entry, out):
    """A link that holds at two places of its entry and exit."""
    while True:
        cube = naive.short([chance.randrange(-3, 4) for _ in range(7)] + [chance.randrange(1, 4)])
        a, b = [naive.value(cube, (entry, out, unit)) for unit in naive_rings.UNITS]
        if (a, b) != (0, 0):
            return (cube, naive_rings.place_of(b, -a))


class JudgeRingTest(Case):

    def test_one_two_none_and_infinitely_many(self):
        seen = {0: 0, 1: 0, 2: 0, None: 0}
        for ring in some_rings(1, 30):
            found = self.call("judge_ring", ring)
            self.assertTrue(naive_rings.ring_holds(ring, found), (ring, found))
            self.gives(True, "ring_holds", ring, found)
            many = naive_rings.how_many(ring)
            self.assertEqual(found[0], {0: "none", None: "many"}.get(many, "standings"))
            if many:
                self.assertEqual([standing[0] for standing in found[1]],
                                 naive_rings.root_places(naive_rings.ring_form(ring, 0)))
            seen[many] += 1
        self.assertGreater(min(seen.values()), 20, seen)

    def test_a_small_box_of_places(self):
        box = [(1, 0)] + [(a, b) for b in (1, 2, 3) for a in range(-4, 5) if naive.math.gcd(a, b) == 1]
        seen = {"none": 0, "standings": 0, "many": 0}
        for ring in some_rings(2, 12):
            if len(ring) > 3:
                continue
            there = naive_rings.standings_in(ring, box)
            kind, told = self.call("judge_ring", ring)
            seen[kind] += bool(there) or kind == "none"
            if kind == "none":
                self.assertEqual(there, [])
            elif kind == "standings":
                # All standings of the box are told, and those that are told and in the box are found.
                self.assertTrue(set(there) <= set(told))
                self.assertTrue(all(standing in there for standing in told if set(standing) <= set(box)))
        self.assertGreater(min(seen.values()), 10, seen)

    def test_links_whose_place_is_a_part(self):
        self.assertEqual(naive_rings.pass_of(PART[0]), (0, 0, 0, 0))
        self.assertEqual(self.call("judge_ring", PART)[0], "many")
        for ring in (PART * 3, PART[::-1], (PART[0],)):
            found = self.call("judge_ring", ring)
            self.assertEqual(found[0], "many")
            self.assertTrue(naive_rings.ring_holds(ring, found))
        for ring in (NARROW, NARROW[::-1], NARROW * 2, NARROW[:1], NARROW[1:]):
            found = self.call("judge_ring", ring)
            self.assertTrue(naive_rings.ring_holds(ring, found))

    def test_the_form_of_one_seam_alone_is_zero(self):
        # Some link leads all to one place, from which a later one leaves all.
        seen = 0
        for ring in itertools.product([(cube, (0, 1)) for cube in (
                (0, 0, 0, 0, 0, 0, 0, 1), (0, 0, 0, 1, 0, 0, 0, 0), (0, 0, 0, 0, 0, 1, 0, 0), (0, 1, 0, 0, 0, 0, 0, 0),
                (0, 1, 0, 0, 0, 0, 0, 1), (0, 0, 0, 1, 0, 1, 0, 0), PRODUCT)], repeat=3):
            forms = [naive_rings.ring_form(ring, seam) == (0, 0, 0) for seam in range(3)]
            seen += any(forms) and not forms[0]
            found = self.call("judge_ring", ring)
            self.assertTrue(naive_rings.ring_holds(ring, found), (ring, found))
            self.assertEqual(found[0] == "many", any(forms))
        self.assertGreater(seen, 3)

    def test_long_rings_and_great_numbers(self):
        chance = random.Random(3)
        start = time.process_time()
        for many in (1, 2, 5, 8):
            for _ in range(20):
                ring = tuple(
                    (naive.short([chance.randrange(-100, 101) for _ in range(7)] + [1]), (chance.randrange(-96, 97), 97))
                    for _ in range(many))
                if not naive_rings.is_ring(ring):
                    continue
                found = self.call("judge_ring", ring)
                self.assertTrue(naive_rings.ring_holds(ring, found))
                self.gives(True, "ring_holds", ring, found)
        self.assertEqual(self.call("judge_ring", EIGHT)[0], "many")
        self.assertLess(time.process_time() - start, 10)

    def test_standings_that_must_be_told(self):
        chance = random.Random(4)
        seen = {"standings": 0, "many": 0}
        for _ in range(120):
            # The links are made such that they hold at a standing.
            standing = tuple(chance.choice(PLACES) for _ in range(chance.choice((1, 2, 3, 8))))
            exits = standing[1:] + standing[:1]
            ring = tuple(link_through(chance, entry, out) for entry, out in zip(standing, exits))
            self.assertTrue(naive_rings.is_standing(ring, standing))
            self.gives(True, "is_standing", ring, standing)
            kind, told = self.call("judge_ring", ring)
            seen[kind] += 1
            if kind == "standings":
                self.assertIn(standing, told)
        self.assertGreater(seen["standings"], 50)

    def test_one_thing_otherwise(self):
        right = 0
        for ring in (ONE, TWO, MANY, NONE, BELOW, SINGLE, NARROW, PART):
            for thing in otherwise_values(self.call("judge_ring", ring)):
                expected = naive_rings.ring_holds(ring, thing)
                self.gives(expected, "ring_holds", ring, thing)
                right += expected
        self.assertGreater(right, 0)

    def test_nothing_of_another_kind(self):
        for ring in (ONE, TWO, NARROW, SINGLE):
            told = self.call("judge_ring", ring)[1]
            for thing in (("many", told), ("many", told * 2), ("many", told + told[:1]), ("standings", told[::-1] + told),
                          ("standings", ()), ("none", 0), ("none", 1), ("standings", told[1:]), ("many", ())):
                self.gives(naive_rings.ring_holds(ring, thing), "ring_holds", ring, thing)
        for number in range(1, 4):
            told = self.call("judge_ring", MANY)[1][:number]
            self.gives(number == 3, "ring_holds", MANY, ("many", told))
            self.gives(False, "ring_holds", MANY, ("standings", told))
            self.gives(number == 1, "ring_holds", MANY, ("many", tuple(sorted(
                self.call("standing_with", MANY, 0, (place, 1)) for place in range(7, 9 + (number == 1))))))
        first, second, third = self.call("judge_ring", MANY)[1]
        for told in ((first, first, second), (first, second, second), (second, first, third), (first, third, second)):
            self.gives(False, "ring_holds", MANY, ("many", told))
        for m in range(-3, 6):
            for ring, right in ((NONE, 2), (BELOW, 0), (MANY, None), (ONE, None), (SINGLE, None), (TWO, None)):
                self.gives(m == right, "ring_holds", ring, ("none", m))

    def test_any_value(self):
        for thing in ODD_VALUES + (("none", True), ("none", False), ("none", None), ("many", None), ("standings", [1, 0])):
            for ring in (ONE, TWO, MANY, NONE, BELOW, SINGLE):
                self.gives(naive_rings.ring_holds(ring, thing), "ring_holds", ring, thing)
                self.gives(naive_rings.is_standing(ring, thing), "is_standing", ring, thing)
        self.gives(False, "ring_holds", (((0, 0, 0, 1, 0, 2, 0, 0), (1, 1)),), ("standings", None))

    def test_examples(self):
        self.gives(("none", 2), "judge_ring", NONE)
        ring = (((0, 1, 0, 0, 0, 0, -2, 0), (2, 1)),)
        self.gives(("standings", (((-2, 1),), ((2, 1),))), "judge_ring", ring)
        self.gives(False, "ring_holds", ring, ("standings", (((2, 1),),)))
        self.gives(False, "ring_holds", ring, ("many", (((2, 1),),)))
        self.gives(True, "is_standing", MANY, ((3, 1), (1, 3)))
        self.gives(True, "ring_holds", MANY, ("many", (((1, 1), (1, 1)), ((2, 1), (1, 2)), ((3, 1), (1, 3)))))
        self.gives(("standings", (((0, 1), (1, 0)), ((1, 0), (0, 1)))), "judge_ring", TWO)
        self.assertEqual(self.call("judge_ring", SINGLE)[0], "standings")
        self.assertEqual(len(self.call("judge_ring", SINGLE)[1]), 1)
        self.gives(("none", 0), "judge_ring", BELOW)

    def test_errors(self):
        for thing in NO_RINGS:
            self.fails(BadRing, {"thing": thing}, "judge_ring", thing)
            for other in (None, ("none", 0), ((1, 0),), ("many", None), ("many", ())):
                self.fails(BadRing, {"thing": thing}, "ring_holds", thing, other)
                self.fails(BadRing, {"thing": thing}, "is_standing", thing, other)


class StandingsTest(Case):

    def test_is_standing(self):
        for ring in some_rings(5, 3):
            many = len(ring)
            for thing in itertools.islice(itertools.product(PLACES, repeat=many), 0, 200, 7):
                self.gives(naive_rings.is_standing(ring, thing), "is_standing", ring, thing)
            kind, told = self.call("judge_ring", ring)
            for standing in told if kind != "none" else ():
                self.gives(True, "is_standing", ring, standing)
                for thing in (list(standing), standing + standing[:1], standing[1:], standing[::-1]):
                    self.gives(naive_rings.is_standing(ring, thing), "is_standing", ring, thing)
        for ring in (ONE, TWO, MANY):
            for thing in otherwise_values(self.call("judge_ring", ring)[1][0]):
                self.gives(naive_rings.is_standing(ring, thing), "is_standing", ring, thing)

    def test_standing_with_a_place(self):
        found = {"none": 0, "some": 0}
        for ring in some_rings(6, 8):
            many = len(ring)
            standings = naive_rings.standings_in(ring, PLACES) if many < 4 else []
            all_told = naive_rings.how_many(ring)
            kind, told = self.call("judge_ring", ring)
            for seam in range(many):
                for place in PLACES:
                    standing = self.call("standing_with", ring, seam, place)
                    if standing is None:
                        found["none"] += 1
                        self.assertFalse(any(other[seam] == place for other in standings))
                        self.assertFalse(kind != "none" and any(other[seam] == place for other in told))
                    else:
                        found["some"] += 1
                        self.assertTrue(naive_rings.is_standing(ring, standing))
                        self.assertEqual(standing[seam], place)
                        self.assertNotEqual(all_told, 0)
                        if kind == "standings":
                            self.assertIn(standing, told)
        self.assertGreater(min(found.values()), 200, found)

    def test_examples(self):
        self.gives(((0, 1), (1, 0)), "standing_with", MANY, 0, (0, 1))
        self.gives(((1, 2), (2, 1)), "standing_with", MANY, 1, (2, 1))
        self.gives(None, "standing_with", TWO, 0, (1, 1))
        self.gives(None, "standing_with", NONE, 0, (1, 1))
        self.gives(((1, 0), (0, 1)), "standing_with", TWO, 1, (0, 1))

    def test_errors(self):
        for thing in NO_RINGS:
            for seam, place in ((0, (1, 0)), (9, None), (None, (1, 0))):
                self.fails(BadRing, {"thing": thing}, "standing_with", thing, seam, place)
        for seam in NO_SEAMS:
            for place in ((1, 0), (2, 2), None):
                self.fails(BadSeam, {"thing": seam}, "standing_with", TWO, seam, place)
        for place in NO_PLACES:
            self.fails(BadPlace, {"thing": place}, "standing_with", TWO, 1, place)
            self.fails(BadPlace, {"thing": place}, "standing_with", NONE, 0, place)


if __name__ == "__main__":
    unittest.main()
