"""[12.1] rings, [12.2] passes, rounds, forms and numbers, [12.5] edge forms, [12.6] rings told otherwise."""

import random
import unittest
from rulertrees.errors import BadChanges, BadRing, BadSeam
from tests import naive
from tests import naive_rings
from tests.helpers import Case, ODD_VALUES, otherwise_values
from tests.test_places import NO_CHANGES, NO_PLACES

PRODUCT = (0, 1, 0, 0, 0, 0, -1, 0)
PLACES = ((1, 0), (0, 1), (1, 1), (-1, 1), (2, 1), (1, 2), (-3, 2))
CHANGES = ((1, 0, 0, 1), (0, 1, 1, 0), (-6, 3, 3, 0), (1, 5, 0, 1), (4, -2, 2, 8), (1, 0, 1, -1), (2, 1, 1, 1))
ONE = ((PRODUCT, (4, 1)),)
TWO = ((PRODUCT, (1, 1)), (PRODUCT, (2, 1)))
EIGHT = ((PRODUCT, (1, 2)),) * 8
# The place of the first link is a part of its cube: the cube holds at all other places then. In the second ring
# the dial 0 or 1 is a part.
PART = (((0, 1, 0, 2, 0, 3, 0, 5), (1, 0)), (PRODUCT, (1, 1)))
NARROW = (((0, 0, 0, 0, 0, 1, 0, 1), (1, 1)), ((1, 0, 0, 0, 2, 0, 0, 0), (3, 1)))


def random_ring(chance, many, bound=2, zeros=3):
    links = []
    for _ in range(many):
        items = [chance.choice([0] * zeros + list(range(-bound, bound + 1))) for _ in range(8)]
        links.append((naive.short(items) if any(items) else PRODUCT, chance.choice(PLACES)))
    return tuple(links)


def some_rings(seed, rounds=12):
    """Rings with all numbers of links; with many zeros links hold at all places, or at those of one dial."""
    chance = random.Random(seed)
    found = [ONE, TWO, EIGHT, PART, NARROW]
    for many in (1, 1, 2, 2, 3, 3, 4, 8):
        for zeros in (0, 3, 12):
            found += [random_ring(chance, many, 2, zeros) for _ in range(rounds)]
    return found


NO_RINGS = [thing for thing in ODD_VALUES if not naive_rings.is_ring(thing)] + [
    (), ONE[0], list(ONE), (list(ONE[0]),), ONE * 9, ((PRODUCT,),), ((PRODUCT, (1, 1), 0),), (((1, 1), PRODUCT),),
    ((PRODUCT, (2, 2)),), ((PRODUCT, [1, 1]),), ((PRODUCT, (True, 1)),), ((PRODUCT, None),), ((list(PRODUCT), (1, 1)),),
    (((0,) * 8, (1, 1)),), (((0, -1, 0, 0, 0, 0, 1, 0), (1, 1)),), (((0, 1, 1, 0), (1, 1)),), (PRODUCT,), PRODUCT,
    (ONE[0], None), (ONE[0], ()), ONE + (0,), {ONE[0]: 1}, (((0, 1, 0, 0, 0, 0, -1, False), (1, 1)),), ((None, (1, 1)),)]
NO_SEAMS = [thing for thing in ODD_VALUES if type(thing) is not int or thing not in (0, 1)] + [2, 8, -2, [0], (0,), "0"]


class RingsTest(Case):

    def test_is_ring(self):
        for ring in some_rings(1, 3):
            self.gives(True, "is_ring", ring)
        for many in range(1, 12):
            self.gives(many <= 8, "is_ring", ONE * many)
        for thing in NO_RINGS:
            self.assertFalse(naive_rings.is_ring(thing), thing)
            self.gives(False, "is_ring", thing)
        for thing in otherwise_values(TWO):
            self.gives(naive_rings.is_ring(thing), "is_ring", thing)
        for place in NO_PLACES:
            self.gives(False, "is_ring", ((PRODUCT, place),))

    def test_passes(self):
        for ring in some_rings(2):
            found = self.call("passes", ring)
            self.assertEqual(found, tuple(naive_rings.pass_of(link) for link in ring))
            for (cube, place), one in zip(ring, found):
                self.check_pass(cube, place, one)

    def check_pass(self, cube, place, one):
        if not naive.is_change(one):
            return
        for entry in PLACES:
            out = self.call("moved", one, entry)
            for other in PLACES + (out,):
                self.assertEqual(naive.value(cube, (entry, other, place)) == 0, other == out)

    def test_rounds_forms_and_numbers(self):
        for ring in some_rings(3, 8):
            number = self.call("ring_number", ring)
            for seam in range(len(ring)):
                self.gives(naive_rings.round_at(ring, seam), "round_at", ring, seam)
                self.gives(naive_rings.ring_form(ring, seam), "ring_form", ring, seam)
                # The number is the same at all seams, and the discriminant of all forms.
                self.assertEqual(naive_rings.ring_number(ring, seam), number)
                self.assertEqual(naive.discriminant(naive_rings.ring_form(ring, seam)), number)

    def test_the_order_of_a_round(self):
        ring = tuple((cube, (1, 1)) for cube in ((0, 1, 2, 0, 1, 0, 0, 3), (1, 0, 0, 2, 0, 1, 1, 0), PRODUCT))
        first, second, third = self.call("passes", ring)
        by = naive_rings.product
        self.gives(by(first, by(third, second)), "round_at", ring, 1)
        self.gives(by(third, by(second, first)), "round_at", ring, 0)
        self.gives(by(second, by(first, third)), "round_at", ring, 2)
        self.assertNotEqual(self.call("round_at", ring, 0), self.call("round_at", ring, 1))

    def test_edge_forms(self):
        for ring in some_rings(4, 6):
            for link in range(len(ring)):
                a, b, c = self.call("edge_form", ring, link)
                for u, v in PLACES + ((7, 5), (-9, 4)):
                    other = ring[:link] + ((ring[link][0], (u, v)),) + ring[link + 1:]
                    self.assertEqual(naive_rings.ring_number(other), a * u * u + b * u * v + c * v * v)
                    # It does not depend on the place of the link.
                    self.gives((a, b, c), "edge_form", other, link)

    def test_great_numbers(self):
        chance = random.Random(5)
        for many in (1, 4, 8):
            ring = tuple(
                (naive.short([chance.randrange(-100, 101) for _ in range(7)] + [1]), (chance.randrange(1, 97), 97))
                for _ in range(many))
            self.gives(naive_rings.round_at(ring, many - 1), "round_at", ring, many - 1)
            self.gives(naive_rings.ring_number(ring), "ring_number", ring)

    def test_examples(self):
        ring = (((0, 1, 0, 0, 0, 0, -2, 0), (1, 1)),)
        self.gives(((0, 2, 1, 0),), "passes", ring)
        self.gives((1, 0, -2), "ring_form", ring, 0)
        self.gives(8, "ring_number", ring)
        self.gives((0, 8, 0), "edge_form", ring, 0)
        self.gives((1, 0, 0, 1), "round_at", ((PRODUCT, (1, 1)),) * 2, 0)
        self.gives((0, 0, 0), "ring_form", ((PRODUCT, (1, 1)),) * 2, 1)
        self.gives((2, 0, 0, 1), "round_at", TWO, 0)
        self.gives(1, "ring_number", TWO)

    def test_errors(self):
        for thing in NO_RINGS:
            for name in ("passes", "ring_number", "turned_round"):
                self.fails(BadRing, {"thing": thing}, name, thing)
            for name in ("round_at", "ring_form", "edge_form", "begun_at"):
                for seam in (0, 99, None):
                    self.fails(BadRing, {"thing": thing}, name, thing, seam)
            self.fails(BadRing, {"thing": thing}, "seams_changed", thing, ((1, 0, 0, 1),))
            self.fails(BadRing, {"thing": thing}, "seams_changed", thing, None)
        for name in ("round_at", "ring_form", "edge_form", "begun_at"):
            for seam in NO_SEAMS:
                self.fails(BadSeam, {"thing": seam}, name, TWO, seam)
            self.fails(BadSeam, {"thing": 1}, name, ONE, 1)
            self.fails(BadSeam, {"thing": -1}, name, EIGHT, -1)
            self.fails(BadSeam, {"thing": 8}, name, EIGHT, 8)


class ToldOtherwiseTest(Case):

    def test_begun_at(self):
        for ring in some_rings(6, 2):
            for seam in range(len(ring)):
                expected = tuple(ring[(seam + k) % len(ring)] for k in range(len(ring)))
                self.gives(expected, "begun_at", ring, seam)
                for at in range(len(ring)):
                    form = self.call("ring_form", expected, at)
                    self.assertEqual(form, self.call("ring_form", ring, (seam + at) % len(ring)))

    def test_turned_round(self):
        for ring in some_rings(7, 3):
            expected = tuple((naive.reordered(cube, (1, 0, 2)), place) for cube, place in ring[::-1])
            self.gives(expected, "turned_round", ring)
            self.gives(ring, "turned_round", expected)

    def test_turned_round_stays_short(self):
        # With its entry and exit exchanged, the first item that is not 0 is another one.
        self.gives((((0, 0, 1, 0, -2, 0, 0, 0), (1, 1)),), "turned_round", (((0, 0, 2, 0, -1, 0, 0, 0), (1, 1)),))

    def test_standings_told_otherwise(self):
        box = PLACES[:5]
        seen = 0
        for ring in some_rings(8, 5):
            many = len(ring)
            if many > 4:
                continue
            for standing in naive_rings.standings_in(ring, box):
                seen += 1
                for seam in range(many):
                    begun = standing[seam:] + standing[:seam]
                    self.assertTrue(naive_rings.is_standing(self.call("begun_at", ring, seam), begun))
                turned = standing[:1] + standing[:0:-1]
                self.assertTrue(naive_rings.is_standing(self.call("turned_round", ring), turned))
        self.assertGreater(seen, 100)

    def test_seams_changed(self):
        chance = random.Random(9)
        seen = 0
        for ring in some_rings(10, 8):
            many = len(ring)
            changes = tuple(chance.choice(CHANGES) for _ in range(many))
            found = self.call("seams_changed", ring, changes)
            expected = tuple(
                (naive.changed(cube, (changes[k], changes[(k + 1) % many], (1, 0, 0, 1))), place)
                for k, (cube, place) in enumerate(ring))
            self.assertEqual(found, expected)
            if many < 5:
                for standing in naive_rings.standings_in(found, PLACES):
                    seen += 1
                    moved = tuple(self.call("moved", change, place) for change, place in zip(changes, standing))
                    self.assertTrue(naive_rings.is_standing(ring, moved))
        self.assertGreater(seen, 100)

    def test_errors(self):
        for thing in [*ODD_VALUES, ((1, 0, 0, 1),), ((1, 0, 0, 1),) * 3, [(1, 0, 0, 1)] * 2, ((1, 0, 0, 1), None)]:
            if thing != ((0, 1, 1, 0), (1, 0, 0, 1)):
                self.fails(BadChanges, {"thing": thing}, "seams_changed", TWO, thing)
        for change in NO_CHANGES:
            for thing in ((change, (1, 0, 0, 1)), ((1, 0, 0, 1), change)):
                self.fails(BadChanges, {"thing": thing}, "seams_changed", TWO, thing)


if __name__ == "__main__":
    unittest.main()
