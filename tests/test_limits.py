"""No call within the limits that end the parts of DOC.md needs more than a few seconds."""

import itertools
import math
import random
import time
import unittest
from rulertrees.workshops import Workshop, read_workshop
from tests import naive
from tests import naive_grids
from tests import naive_trees
from tests.helpers import INTERFACE, function_of
from tests.naive_rings import place_of
from tests.test_shapes import SHAPES
from tests.test_splits import random_relation
from tests.test_standards import KNOT, standard

SECONDS = 4
BILLION = 10 ** 9


def great_place(chance, bound):
    """A place with integers near a bound."""
    while True:
        a, b = chance.randrange(-bound, bound + 1), chance.randrange(bound // 2, bound + 1)
        if math.gcd(a, b) == 1:
            return (a, b)


def great_change(chance, bound):
    while True:
        change = tuple(chance.randrange(-bound, bound + 1) for _ in range(4))
        if naive.is_change(change):
            return change


def great_cube(chance, bound, most):
    """A cube with items near a bound whose Cayley number is not far from the most, and not beyond."""
    while True:
        cube = random_relation(chance, 3, bound, 0)
        number = naive.discriminant(naive.form(cube, 0))
        if most // 100 < abs(number) <= most:
            return cube


def alike_to_standard(chance, many, s, bound):
    """A relation alike to a standard one, changed again and again as far as the bound of its items allows."""
    found = standard(many, s)
    for _ in range(30):
        changes = [(1, 0, 0, 1)] * many
        changes[chance.randrange(many)] = great_change(chance, 2)
        relation = naive.changed(found, changes)
        found = relation if max(map(abs, relation)) <= bound else found
    return found


def texts():
    """Texts with sixteen names and integers whose polynomials have many terms."""
    names = "abcdefghijklmnop"
    pairs = [f"({x} + {y})" for x, y in zip(names[::2], names[1::2])]
    yield " * ".join(pairs[:7]) + " = " + pairs[7]
    yield " + ".join("1 / " + pair for pair in pairs[:7]) + " = " + pairs[7]
    yield " / ".join(pairs[:7]) + " = 1 / " + pairs[7]
    yield " + ".join(f"{x} / {y}" for x, y in zip(names[:14:2], names[1:14:2])) + " = o / p"
    yield " * ".join(f"({x} - 1 / {y})" for x, y in zip(names[:12:2], names[1:12:2])) + " = 7"
    nested = "a"
    for name in names[1:15]:
        nested = f"{name} + 1 / ({nested})"
    yield nested + " = p"
    yield " * ".join(["(a + b)"] * 7) + " = (a - b)"
    yield "(" * 20 + "a" + ")" * 20 + " = " + "-" * 20 + "b"


def plane_calls(chance):
    """Calls of the modules of parts 1 to 6, at their limits."""
    places = tuple(great_place(chance, BILLION) for _ in range(3))
    yield "is_square", (10 ** 60 - 1,)
    for number in (99999999999973, 9999991 ** 2, 9999991 * 9999973, 46411 ** 3 - 1, 2 ** 46, -(10 ** 14)):
        yield "square_class", (number,)
    yield "change_between", (places, places[::-1])
    wide = random_relation(chance, 6, 10 ** 6, 0)
    yield "value", (wide, places * 2)
    yield "changed", (wide, tuple(great_change(chance, BILLION) for _ in range(6)))
    parts = (1,)
    for _ in range(6):
        parts = tuple(a * b for a in parts for b in (chance.randrange(1, 10), chance.choice((11, 13))))
    for relation in (wide, parts, tuple(a * b for a in random_relation(chance, 3, 999) for b in random_relation(chance, 3, 999))):
        yield "pieces", (relation,)
        yield "is_whole", (relation,)
    for bound in (3000, 900):
        one = great_cube(chance, bound, 10 ** 14)
        yield "sort_of", (one,)
        other = naive.changed(one, [(1, 1, 0, 1), (0, 1, -1, 5), (1, 0, 3, 1)])
        yield "judge_alike", (one, other)
        yield "judge_alike", (one, great_cube(chance, bound, 10 ** 14))
    form = (10 ** 12 - 1, 10 ** 12 - 7, 10 ** 12)
    for name in ("reducing", "class_of"):
        yield name, (form,)
    yield "united", (form, form)
    yield "product_class", (form, form)
    for discriminant in (-1999, -1996, -2000):
        yield "form_classes", (discriminant,)
    for discriminant in (-479, -500, -431, -499):
        yield "reduced_cubes", (discriminant,)
    cube = random_relation(chance, 3, 100, 0)
    for name in ("judge_straight", "both_charts"):
        yield name, (cube,)
    for dial in range(3):
        yield "bent_chart", (cube, dial)


def tree_calls(chance):
    """Calls of the modules of parts 7 to 12, at their limits."""
    for text in texts():
        yield "read_relation", (text,)
        names = function_of("names_in")[0](text)
        yield "truth_of", (text, tuple((a, b) for a, b in [great_place(chance, BILLION) for _ in names]))
    wide = random_relation(chance, 6, 1000, 0)
    for name in ("ranks", "fitting", "standard_of"):
        yield name, (wide,)
    for s in (0, 1, 2, -3):
        relation = alike_to_standard(chance, 6, s, 1000)
        for name in ("standard_of", "fitting", "bundles_of"):
            yield name, (relation,)
        relation = alike_to_standard(chance, 6, s, 20)
        for name in ("to_standard", "judge_hanging", "bundles_of", "many_shapes", "hangings_of"):
            yield name, (relation,)
        yield "rehangings", (relation, SHAPES[6][0], SHAPES[6][-1])
    yield "shapes", (6,)
    yield "judge_hanging", (random_relation(chance, 6, 20, 0),)
    for shape in SHAPES[6][::35]:
        tree = (shape, tuple(random_relation(chance, 3, 100, 0) for _ in shape))
        relation = function_of("relation_of")[0](tree)
        yield "judge_shape", (relation, shape)
        yield "judge_hanging", (relation,)
        yield "judge_trees", (tree, (shape, function_of("judge_shape")[0](relation, shape)[1]))
        yield "passage", (tree, tuple(great_place(chance, 1000) for _ in range(6)))
        yield "last_read", (tree, 0, tuple(great_place(chance, 1000) for _ in range(5)))
    yield "judge_hanging", (naive_trees.relation_of(((0, 1, 2, 6), (3, 4, 5, 6)), (KNOT, KNOT)),)
    for many in (1, 8):
        ring = tuple((random_relation(chance, 3, 100, 0), great_place(chance, 100)) for _ in range(many))
        yield "judge_ring", (ring,)
        yield "edge_form", (ring, many - 1)
        yield "ring_holds", (ring, ("none", 1))


def sheet_calls(chance):
    """Calls of the modules of parts 13 and 14, at their limits."""
    relation = random_relation(chance, 4, 9, 0)
    readings = []
    while len(readings) < 20:
        places = [great_place(chance, 10) for _ in range(3)]
        a, b = [naive.value(relation, places + [unit]) for unit in ((1, 0), (0, 1))]
        readings.append(tuple(places) + (place_of(b, -a),))
    reading = tuple(great_place(chance, 1000) for _ in range(4))
    wild = tuple(tuple(great_place(chance, 1000) for _ in range(4)) for _ in range(20))
    for sheet in (tuple(readings), wild, wild[:16], tuple(readings[:18]) + wild[:2]):
        for name in ("agreeing", "next_reading", "keen_question", "only_relation"):
            yield name, (4, sheet)
        yield "judge_follows", (4, sheet, reading)
        for w in (0, 1, 2):
            yield "relations_in_spite", (4, sheet, w)
            yield "judge_spite", (4, sheet, w, reading)
            yield "judge_spite", (4, sheet, w, readings[0])
    for orders in ((8,), (2, 4), (2, 2, 2)):
        grid = naive_grids.standard_grid(orders)
        other = naive_grids.renamed_grid(grid, *(chance.sample(range(8), 8) for _ in range(3)))
        for name in ("first_open", "judge_grid", "many_certificates"):
            yield name, (other,)
        yield "judge_renamed", (grid, other)
    for size in (6, 7, 8):
        grid = naive_grids.standard_grid((size,))
        for y in range(size):
            # One row and one column, and half of another one.
            part = tuple(tuple(entry if x == 0 or column == 0 or (x == 1 and column <= y) else None
                               for column, entry in enumerate(row)) for x, row in enumerate(grid))
            yield "judge_filling", (part,)
        yield "judge_filling", (((None,) * size,) * size,)


class LimitsTest(unittest.TestCase):

    def test_the_slowest_calls(self):
        chance = random.Random(1)
        seen = {}
        for name, arguments in itertools.chain(plane_calls(chance), tree_calls(chance), sheet_calls(chance)):
            function = function_of(name)[0]
            start = time.process_time()
            try:
                function(*arguments)
            except Exception as error:
                # A text can have too many names or exponents; that takes its time, too.
                self.assertEqual(name, "read_relation", (arguments, error))
            seen[name] = max(seen.get(name, 0), time.process_time() - start)
        slowest = max(seen, key=seen.get)
        self.assertLess(seen[slowest], SECONDS, slowest)
        self.assertEqual(set(seen) - {name for table in INTERFACE.values() for name in table}, set())

    def test_workshops_with_many_deeds(self):
        chance = random.Random(2)
        shop = Workshop(standard(6, 3), ("a", "b", "c", "d", "e", "f"))
        start = time.process_time()
        for _ in range(300):
            shop.turn(chance.choice(shop.names()), great_change(chance, BILLION))
        shop.choose(SHAPES[6][50])
        for name in "abcde":
            shop.put(name, great_place(chance, BILLION))
        shop.put("f", shop.last("f"))
        self.assertTrue(read_workshop(shop.text()).is_same(shop))
        self.assertLess(time.process_time() - start, SECONDS)


if __name__ == "__main__":
    unittest.main()
