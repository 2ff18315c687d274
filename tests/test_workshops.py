"""[15.1] workshops, [15.2] deeds, [15.3] turning a dial, [15.4] texts."""

import copy
import inspect
import random
import time
import unittest
from rulertrees import errors
from rulertrees.workshops import Workshop, read_workshop
from tests import naive
from tests import naive_trees
from tests import naive_workshops
from tests.helpers import Case, METHODS, ODD_VALUES, exact, outcome
from tests.test_families import whole_relations
from tests.test_places import NO_CHANGES, NO_PLACES
from tests.test_shapes import NO_SHAPES, SHAPES
from tests.test_splits import random_relation
from tests.test_standards import KNOT, changed_standard
from tests.test_trees import TREE

PRODUCT = (0, 1, 0, 0, 0, 0, -1, 0)
OF_TREE = (0, 0, 0, 1, 0, 0, 0, 0, 0, 0, 0, 0, 1, 0, 0, -1)
NAMES = ("x", "y", "zz", "abcdefgh", "a", "b")
PLACES = ((1, 0), (0, 1), (1, 1), (-1, 1), (2, 1), (1, 2), (-3, 2))
CHANGES = ((1, 0, 0, 1), (0, 1, 1, 0), (-6, 3, 3, 0), (1, 5, 0, 1), (4, -2, 2, 8), (1, 0, 1, -1), (2, 1, 1, 1))
NO_RELATIONS = [thing for thing in ODD_VALUES if not naive_workshops.is_relation(thing)] + [
    (1, 0), (0, 1, 1, 0), (1, -3), (0, -1, 0, 0, 0, 0, 1, 0), (0, 2, 0, 0, 0, 0, -2, 0), (0,) * 8, list(PRODUCT),
    (0, 1, 0, 0, 0, 0, -1, False), (1,) + (0,) * 127]
NO_NAMES = [thing for thing in ODD_VALUES if not naive_workshops.are_names(thing, 3)] + [
    ("x", "y"), ("x", "y", "z", "w"), ["x", "y", "z"], ("x", "y", "x"), ("x", "y", ""), ("x", "y", "Z"), "xyz",
    ("x", "y", "z1"), ("x", "y", "abcdefghi"), ("x", "y", " z"), ("x", "y", None), ("x", "y", ("z",)), ("x", "y", "z\n"),
    ("x", "y", "\u00e9"), ("x", "y", 1), ("x", "y", True), {"x": 1, "y": 2, "z": 3}, ("x", ["y"], "z")]


class WorkshopCase(Case):

    def do(self, shop, name, *arguments):
        """What a method of a workshop returns, the same by name in a copy of it; the arguments stay as they are."""
        before = copy.deepcopy(arguments)
        other = copy.deepcopy(shop)
        by_name = outcome(lambda: getattr(other, name)(**dict(zip(METHODS[name], arguments))))
        by_position = outcome(lambda: getattr(shop, name)(*arguments))
        self.assertTrue(exact(arguments, before))
        self.assertEqual(by_position[0], by_name[0], (name, arguments, by_position, by_name))
        if name == "copied":
            self.assertTrue(by_position[1].is_same(by_name[1]))
        else:
            self.assertTrue(exact(by_position[1:], by_name[1:]) or by_position[1] is by_name[1])
        self.assertTrue(other.is_same(shop))
        return by_position

    def tells(self, shop, model):
        """The workshop tells just what the model tells."""
        relation, names, shape, places = model.now()
        for name, expected in (("relation", relation), ("names", names), ("shape", shape), ("places", places),
                               ("text", naive_workshops.text_of(relation, names, shape, places))):
            found = getattr(shop, name)()
            self.assertTrue(exact(found, expected), (name, found, expected))
        if None not in places:
            self.assertEqual(naive.value(relation, places), 0)
        for name in names:
            self.same_outcome(shop, model, "last", (name,))

    def same_outcome(self, shop, model, name, arguments):
        """The workshop and the model do a deed, or refuse it, alike."""
        found = self.do(shop, name, *arguments)
        try:
            expected = getattr(model, name)(*arguments)
        except naive_workshops.Refused as refused:
            kind, attributes = refused.args
            self.assertEqual(found[0], "raised", (name, arguments, kind))
            self.assertIs(found[1], getattr(errors, kind))
            if attributes is not None:
                self.assertTrue(exact(found[2], attributes), (found, attributes))
            else:
                relation = model.now()[0]
                certificate = found[2].pop("certificate")
                self.assertEqual((found[2], certificate[0]), ({}, "inner"))
                self.assertTrue(naive_trees.shape_holds(relation, arguments[0], certificate))
            return False
        self.assertEqual(found[0], "returned", (name, arguments, found))
        self.assertTrue(exact(found[1], expected), (name, arguments, found, expected))
        return True


def some_relations(seed):
    chance = random.Random(seed)
    found = [PRODUCT, OF_TREE, KNOT, (1,) + (0,) * 15, changed_standard(chance, 5, 2), changed_standard(chance, 6, 0)]
    found += [random_relation(chance, many, 2, 3) for many in (3, 4, 5, 6)]
    return found + [relation for relation, _ in whole_relations(seed, 40)]


def random_deed(chance, model):
    """The name and the arguments of a deed, or of undo and redo, some of them refused."""
    relation, names, shape, places = model.now()
    name = chance.choice(("put",) * 6 + ("turn", "turn", "swap", "clear", "choose", "choose", "drop", "undo", "undo", "redo"))
    dial = chance.choice(names) if chance.random() < 0.95 else chance.choice(("nobody", None, 1, ("x",), [names[0]], ""))
    place = chance.choice(PLACES) if chance.random() < 0.9 else chance.choice(((2, 2), None, (1, True), [1, 0]))
    unset = [k for k, one in enumerate(places) if one is None]
    if len(unset) == 1 and chance.random() < 0.7:
        # The one place with which the relation holds.
        dial = names[unset[0]]
        place = naive_workshops.last_place(relation, unset[0], places[:unset[0]] + places[unset[0] + 1:]) or place
    if name == "put":
        return name, (dial, place)
    if name == "clear":
        return name, (dial,)
    if name == "turn":
        return name, (dial, chance.choice(CHANGES) if chance.random() < 0.9 else chance.choice(((1, 2, 2, 4), None)))
    if name == "swap":
        return name, (dial, chance.choice(names) if chance.random() < 0.9 else None)
    if name == "choose":
        shapes = SHAPES[len(names)]
        fitting = [one for one in shapes[::9] if naive_trees.fits(relation, one)]
        return name, (chance.choice(fitting or shapes) if chance.random() < 0.6 else chance.choice([*shapes, *NO_SHAPES[-9:]]),)
    return name, ()


class DeedsTest(WorkshopCase):

    def test_long_rows_of_deeds(self):
        chance = random.Random(1)
        done = refused = whole = 0
        for relation in some_relations(2):
            many = naive_trees.count_dials(relation)
            names = NAMES[:many]
            shop, model = Workshop(relation, names), naive_workshops.Model(relation, names)
            self.tells(shop, model)
            for _ in range(60):
                name, arguments = random_deed(chance, model)
                was_done = self.same_outcome(shop, model, name, arguments)
                done, refused = done + was_done, refused + (not was_done)
                self.tells(shop, model)
                whole += None not in model.now()[3]
            self.check_all_undone_and_redone(shop, model)
        self.assertGreater(min(done, refused, whole), 100, (done, refused, whole))

    def check_all_undone_and_redone(self, shop, model):
        """After each undo and each redo all is as it was, as often as there are deeds."""
        for name in ("redo", "undo", "redo", "undo"):
            while self.same_outcome(shop, model, name, ()):
                self.tells(shop, model)

    def test_what_a_deed_makes_impossible(self):
        shop = Workshop(PRODUCT, ("x", "y", "z"))
        shop.put("x", (2, 1))
        shop.undo()
        # A deed that is refused does not count: the one that was taken back can still be done again.
        self.assertEqual(self.do(shop, "put", "x", (2, 2))[1], errors.BadPlace)
        self.assertEqual(self.do(shop, "clear", "w")[1], errors.NoName)
        shop.redo()
        self.assertEqual(shop.places(), ((2, 1), None, None))
        shop.undo()
        # A deed that changes nothing counts.
        for name, arguments in (("clear", ("x",)), ("drop", ()), ("swap", ("y", "y")), ("turn", ("z", (1, 0, 0, 1)))):
            self.do(shop, name, *arguments)
            self.assertEqual(self.do(shop, "redo")[1], errors.NothingToRedo)
        for _ in range(4):
            self.assertEqual(self.do(shop, "undo"), ("returned", None))
        self.assertEqual(self.do(shop, "undo")[1], errors.NothingToUndo)

    def test_new_workshops(self):
        for relation in some_relations(3):
            many = naive_trees.count_dials(relation)
            shop = Workshop(relation, NAMES[:many])
            self.tells(shop, naive_workshops.Model(relation, NAMES[:many]))
            self.assertTrue(shop.is_same(Workshop(names=NAMES[:many], relation=relation)))
            self.assertEqual(self.do(shop, "undo"), ("raised", errors.NothingToUndo, {}))
            self.assertEqual(self.do(shop, "redo"), ("raised", errors.NothingToRedo, {}))

    def test_turned_dials(self):
        chance = random.Random(4)
        for relation in some_relations(5):
            many = naive_trees.count_dials(relation)
            names = NAMES[:many]
            shop = Workshop(relation, names)
            fitting = [shape for shape in SHAPES[many] if naive_trees.fits(relation, shape)]
            if fitting:
                shop.choose(chance.choice(fitting))
            for name in names[:-1]:
                shop.put(name, chance.choice(PLACES))
            last = shop.last(names[-1])
            shop.put(names[-1], (1, 1) if last is None else last)
            for _ in range(6):
                name, change = chance.choice(names), chance.choice(CHANGES)
                before = (shop.relation(), shop.places())
                shop.turn(name, change)
                self.assertEqual(naive.value(shop.relation(), shop.places()), 0)
                self.assertEqual(shop.shape() is None, not fitting)
                if fitting:
                    self.assertTrue(naive_trees.fits(shop.relation(), shop.shape()))
                p, q, r, s = change
                shop.turn(name, (s, -q, -r, p))
                self.assertEqual((shop.relation(), shop.places()), before)
                shop.undo()

    def test_great_numbers(self):
        # After many turns the items have more digits than Python writes at once.
        shop = Workshop(PRODUCT, ("x", "y", "z"))
        shop.put("x", (-7, 9))
        for _ in range(600):
            shop.turn("x", (10 ** 9, 1, 7, 10 ** 9 - 1))
        self.assertGreater(max(abs(item) for item in shop.relation()), 10 ** 4500)
        text = shop.text()
        other = read_workshop(text)
        self.assertEqual((other.relation(), other.places(), other.text()), (shop.relation(), shop.places(), text))
        self.assertTrue(other.is_same(shop))
        for _ in range(600):
            shop.undo()
        self.assertEqual(shop.text(), "relation 0 1 0 0 0 0 -1 0\ndials x y z\nset x -7 9")

    def test_examples(self):
        shop = Workshop(PRODUCT, ("x", "y", "z"))
        shop.put("x", (2, 1))
        shop.put("y", (3, 1))
        self.assertEqual(shop.last("z"), (6, 1))
        self.assertEqual(shop.places(), ((2, 1), (3, 1), None))
        self.assertEqual(shop.text(), "relation 0 1 0 0 0 0 -1 0\ndials x y z\nset x 2 1\nset y 3 1")
        self.assertEqual(self.do(shop, "put", "z", (5, 1)),
                         ("raised", errors.DoesNotHold, {"places": ((2, 1), (3, 1), (5, 1))}))
        shop.turn("x", (0, 1, 1, 0))
        self.assertEqual(shop.relation(), (0, 0, 1, 0, 0, -1, 0, 0))
        self.assertEqual(shop.places(), ((1, 2), (3, 1), None))
        self.assertEqual(shop.last("z"), (6, 1))
        shop = Workshop(OF_TREE, ("x", "y", "z", "w"))
        kind, error, attributes = self.do(shop, "choose", ((0, 2, 4), (1, 3, 4)))
        self.assertEqual((kind, error), ("raised", errors.DoesNotFit))
        self.assertTrue(naive_trees.shape_holds(OF_TREE, ((0, 2, 4), (1, 3, 4)), attributes["certificate"]))


class ErrorsTest(WorkshopCase):

    def refused(self, shop, error, attributes, name, *arguments):
        """The deed raises the error, and nothing changes, not even what can be done again."""
        before = copy.deepcopy(vars(shop))
        found = self.do(shop, name, *arguments)
        self.assertTrue(exact(found, ("raised", error, attributes)), (name, arguments, found))
        self.assertTrue(exact(vars(shop), before))

    def a_shop(self):
        shop = Workshop(OF_TREE, ("x", "y", "z", "w"))
        for dial, place in zip("xyz", ((2, 1), (3, 1), (5, 1))):
            shop.put(dial, place)
        shop.choose(TREE[0])
        shop.clear("x")
        shop.undo()
        return shop

    def test_made_of_wrong_things(self):
        for thing in NO_RELATIONS:
            for names in (("x", "y", "z"), None):
                for make in (lambda: Workshop(thing, names), lambda: Workshop(names=names, relation=thing)):
                    found = outcome(make)
                    self.assertTrue(exact(found, ("raised", errors.BadRelation, {"thing": thing})), found)
        for thing in NO_NAMES:
            found = outcome(lambda: Workshop(PRODUCT, thing))
            self.assertTrue(exact(found, ("raised", errors.BadNames, {"thing": thing})), found)
        self.assertEqual(outcome(lambda: Workshop(KNOT, ("x", "y", "z")))[1], errors.BadNames)

    def test_names(self):
        shop = self.a_shop()
        for thing in [*ODD_VALUES, "xy", "X", " x", "", ("x",), ["x"], 0]:
            if thing == "x":
                continue
            attributes = {"name": thing}
            for place in ((1, 1), (2, 2), None):
                self.refused(shop, errors.NoName, attributes, "put", thing, place)
            for name in ("clear", "last"):
                self.refused(shop, errors.NoName, attributes, name, thing)
            for change in ((1, 0, 0, 1), None):
                self.refused(shop, errors.NoName, attributes, "turn", thing, change)
            for other in ("x", "nobody"):
                self.refused(shop, errors.NoName, attributes, "swap", thing, other)
            self.refused(shop, errors.NoName, attributes, "swap", "y", thing)

    def test_places_and_changes(self):
        shop = self.a_shop()
        for thing in NO_PLACES:
            for name in ("x", "w"):
                self.refused(shop, errors.BadPlace, {"thing": thing}, "put", name, thing)
        for thing in NO_CHANGES:
            for name in ("x", "w"):
                self.refused(shop, errors.BadChange, {"thing": thing}, "turn", name, thing)
        places = ((2, 1), (3, 1), (5, 1), (7, 1))
        self.refused(shop, errors.DoesNotHold, {"places": places}, "put", "w", (7, 1))

    def test_shapes(self):
        shop = self.a_shop()
        for thing in [*NO_SHAPES, *SHAPES[3], *SHAPES[5][:3], SHAPES[4][0][::-1], ((2, 3, 4), (0, 1, 4))]:
            self.refused(shop, errors.BadShape, {"thing": thing}, "choose", thing)
        for shape in SHAPES[4]:
            found = self.do(shop, "choose", shape)
            self.assertEqual(found[0], "returned" if shape == TREE[0] else "raised")
        self.assertEqual(shop.shape(), TREE[0])
        five = Workshop(changed_standard(random.Random(6), 5, 1), NAMES[:5])
        for shape in SHAPES[5]:
            # Some of these shapes have another number for some inner dial, so they are not tidy.
            for other in (naive_trees.renumbered(shape, {5: 6, 6: 5}), shape):
                right = naive_trees.tidy(other) == other
                self.assertEqual(self.do(five, "choose", other)[0], "returned" if right else "raised")

    def test_last(self):
        shop = self.a_shop()
        self.assertEqual(self.do(shop, "last", "w"), ("returned", (-1, 1)))
        self.refused(shop, errors.NotTheLast, {"name": "x"}, "last", "x")
        shop.clear("x")
        for name in "xyzw":
            self.refused(shop, errors.NotTheLast, {"name": name}, "last", name)
        shop = Workshop(PRODUCT, ("x", "y", "z"))
        shop.put("x", (0, 1))
        shop.put("y", (1, 0))
        self.assertEqual(self.do(shop, "last", "z"), ("returned", None))
        shop.put("z", (5, 7))
        for name in "xyz":
            self.refused(shop, errors.NotTheLast, {"name": name}, "last", name)


class CopiesTest(WorkshopCase):

    def test_copies(self):
        chance = random.Random(7)
        for relation in some_relations(8)[:9]:
            many = naive_trees.count_dials(relation)
            names = NAMES[:many]
            shops = [(Workshop(relation, names), naive_workshops.Model(relation, names))]
            for step in range(40):
                shop, model = chance.choice(shops)
                if step % 8 == 7:
                    fresh = self.do(shop, "copied")[1]
                    self.assertIsInstance(fresh, Workshop)
                    self.assertTrue(fresh.is_same(shop))
                    shops.append((fresh, copy.deepcopy(model)))
                self.same_outcome(shop, model, *random_deed(chance, model))
                # Deeds in one of them change nothing in the others.
                for other, other_model in shops:
                    self.tells(other, other_model)
            for shop, model in shops:
                for name in ("redo", "undo", "redo"):
                    while self.same_outcome(shop, model, name, ()):
                        self.tells(shop, model)

    def test_is_same(self):
        shop = Workshop(PRODUCT, ("x", "y", "z"))
        for thing in ODD_VALUES:
            self.assertIs(shop.is_same(thing), False)
        self.assertIs(shop.is_same(shop.text()), False)
        self.assertIs(shop.is_same(shop), True)
        other = Workshop(PRODUCT, ("x", "y", "z"))
        for name, arguments, back in (("put", ("x", (1, 1)), True), ("swap", ("x", "y"), True), ("turn", ("x", (2, 1, 1, 1)), True),
                                      ("choose", (((0, 1, 2),),), True), ("drop", (), False), ("clear", ("x",), False)):
            getattr(other, name)(*arguments)
            self.assertEqual(self.do(shop, "is_same", other)[1], not back, name)
            other.undo()
            # It is the same, though it has a deed to redo.
            self.assertIs(shop.is_same(other), True)
            self.assertIs(other.is_same(shop), True)


class TextsTest(WorkshopCase):

    def some_shops(self, seed):
        chance = random.Random(seed)
        found = []
        for relation in some_relations(seed):
            many = naive_trees.count_dials(relation)
            model = naive_workshops.Model(relation, NAMES[:many])
            shop = Workshop(relation, NAMES[:many])
            for _ in range(12):
                self.same_outcome(shop, model, *random_deed(chance, model))
            found.append(shop)
        full = Workshop(OF_TREE, ("x", "y", "z", "w"))
        full.choose(TREE[0])
        for name, place in zip("xyzw", ((2, 1), (3, 1), (5, 1), (-1, 1))):
            full.put(name, place)
        return found + [full]

    def check(self, text):
        """The workshop is read, or the number of the line is told."""
        wrong = naive_workshops.wrong_line(text)
        if wrong is None:
            shop = self.call("read_workshop", text)
            self.assertEqual(shop.text(), text)
            self.assertEqual(self.do(shop, "undo")[1], errors.NothingToUndo)
            self.assertEqual(self.do(shop, "redo")[1], errors.NothingToRedo)
        else:
            self.fails(errors.BadText, {"at": wrong}, "read_workshop", text)
        return wrong

    def test_texts_read_back(self):
        for shop in self.some_shops(9):
            self.assertIsNone(self.check(shop.text()))
            self.assertTrue(self.call("read_workshop", shop.text()).is_same(shop))

    def test_texts_cut_and_changed(self):
        chance = random.Random(10)
        seen = {}
        for shop in self.some_shops(11)[-8:] + self.some_shops(11)[:3]:
            text = shop.text()
            for at in sorted(chance.sample(range(len(text) + 1), min(40, len(text)))):
                for sign in ("", " ", "\n", "0", "-", "x", ",", "1", "Z", "\t"):
                    for fresh in (text[:at] + sign + text[at:], text[:at] + sign + text[at + 1:]):
                        wrong = self.check(fresh)
                        seen[wrong] = seen.get(wrong, 0) + 1
                wrong = self.check(text[:at])
                seen[wrong] = seen.get(wrong, 0) + 1
        self.assertGreater(min(seen.get(number, 0) for number in (None, 1, 2, 3, 4, 5)), 5, seen)

    def test_lines_in_other_places(self):
        for shop in self.some_shops(12):
            lines = shop.text().split("\n")
            for at in range(len(lines)):
                self.check("\n".join(lines[:at] + lines[at + 1:]))
                self.check("\n".join(lines[:at] + lines[at:at + 1] * 2 + lines[at + 1:]))
                self.check("\n".join(lines[:at] + [""] + lines[at:]))
                self.check("\n".join(lines[:at]))
                for other in range(at):
                    self.check("\n".join(lines[:other] + [lines[at]] + lines[other + 1:at] + [lines[other]] + lines[at + 1:]))
            self.check("\n".join(lines) + "\n")
            self.check("\n" + "\n".join(lines))
            self.check("\n".join(lines + ["shape 0,1,2"]))
            self.check("\n".join(lines + ["set x 1 1"]))

    def test_wrong_lines(self):
        relation, dials = "relation 0 0 0 1 0 0 0 0 0 0 0 0 1 0 0 -1", "dials x y z w"
        cases = [("", 1), (relation, 2), ("relation", 1), ("relation 0 1 1 0", 1), ("relation 0 0 0 0 0 0 0 0", 1),
                 ("relation 0 2 0 0 0 0 -2 0\ndials x y z", 1), (relation + " ", 1), (" " + relation, 1),
                 (relation.replace("-1", "-01"), 1), (relation.replace("-1", "+1"), 1), (relation.replace("-1", "1_0"), 1),
                 (relation.replace(" 0 0", "  0 0", 1), 1), (relation.replace("-1", "-0"), 1), ("Relation" + relation[8:], 1)]
        for line, right in (("dials x y z", 2), ("dials x y z z", 2), ("dials  x y z w", 2), ("dials x y z w ", 2),
                            ("dials x y z w2", 2), ("dial x y z w", 2), ("dials x y z abcdefghi", 2), ("", 2),
                            ("dials w z y x", None), ("set x 1 1", 2)):
            cases.append((relation + "\n" + line, right))
        for lines, right in ((("shape 0,1,4 2,3,4",), None), (("shape 0,2,4 1,3,4",), 3), (("shape 2,3,4 0,1,4",), 3),
                             (("shape 0,1,4 2,3,4 ",), 3), (("shape 0,1,4  2,3,4",), 3), (("shape",), 3), (("shape 0,1,2",), 3),
                             (("shape 0,1,04 2,3,4",), 3), (("shape 0, 1,4 2,3,4",), 3), (("shape 0,1,4 3,2,4",), 3),
                             (("set x 1 1", "shape 0,1,4 2,3,4"), 4), (("shape 0,1,4 2,3,4", "shape 0,1,4 2,3,4"), 4),
                             (("set y 1 1", "set x 1 1"), 4), (("set x 1 1", "set x 1 1"), 4), (("set x 2 2",), 3),
                             (("set x 0 1", "set y 1 0", "set z -7 3"), None), (("set x 1 -1",), 3), (("set x 1",), 3),
                             (("set x 1 1 1",), 3), (("set v 1 1",), 3), (("set x 1 1 ",), 3), (("set x -0 1",), 3),
                             (("set x 2 1", "set y 3 1", "set z 5 1", "set w -1 1"), None), (("set  1 1",), 3),
                             (("set x 2 1", "set y 3 1", "set z 5 1", "set w 1 1"), 6), (("set x 2 1", "", "set y 3 1"), 4),
                             (("set x 2 1", "set y 3 1", "set z 5 1", "set w -1 1", "set w -1 1"), 7), (("",), 3)):
            cases.append(("\n".join((relation, dials) + lines), right))
        for text, right in cases:
            self.assertEqual(self.check(text), right, text)

    def test_any_value(self):
        for thing in ODD_VALUES:
            if not isinstance(thing, str):
                self.fails(errors.BadText, {"at": 0}, "read_workshop", thing)
            else:
                self.fails(errors.BadText, {"at": 1}, "read_workshop", thing)
        shop = Workshop(PRODUCT, ("x", "y", "z"))
        for thing in (shop, [shop.text()], (shop.text(),), shop.text().split("\n"), shop.text().encode()):
            self.fails(errors.BadText, {"at": 0}, "read_workshop", thing)

    def test_texts_of_great_length(self):
        self.fails(errors.BadText, {"at": 1}, "read_workshop", "relation " + "9" * 6000)
        self.fails(errors.BadText, {"at": 3}, "read_workshop",
                   "relation 0 1 0 0 0 0 -1 0\ndials x y z\nset x " + "9" * 6000 + " 3")
        great = "1" + "0" * 5999 + "1"
        self.assertEqual(self.call("read_workshop", f"relation 0 1 0 0 0 0 -1 0\ndials x y z\nset x {great} 3").text(),
                         f"relation 0 1 0 0 0 0 -1 0\ndials x y z\nset x {great} 3")

    def test_example(self):
        self.fails(errors.BadText, {"at": 5}, "read_workshop",
                   "relation 0 1 0 0 0 0 -1 0\ndials x y z\nset x 2 1\nset y 3 1\nset z 5 1")


class InterfaceTest(unittest.TestCase):

    def test_methods_stand_in_the_class(self):
        self.assertEqual(Workshop.__bases__, (object,))
        for name, parameters in METHODS.items():
            listed = inspect.signature(vars(Workshop)[name]).parameters
            self.assertEqual(tuple(listed), ("self",) + parameters, name)
            for parameter in listed.values():
                self.assertEqual(parameter.kind, parameter.POSITIONAL_OR_KEYWORD, name)
                self.assertIs(parameter.default, parameter.empty, name)
        self.assertEqual(tuple(inspect.signature(Workshop).parameters), ("relation", "names"))
        self.assertEqual(Workshop.__module__, "rulertrees.workshops")

    def test_little_time(self):
        chance = random.Random(13)
        start = time.process_time()
        shop = Workshop(changed_standard(chance, 6, -5), NAMES)
        for shape in SHAPES[6][::10]:
            shop.choose(shape)
            for name in NAMES:
                shop.turn(name, chance.choice(CHANGES))
            self.assertTrue(read_workshop(shop.text()).is_same(shop))
        self.assertLess(time.process_time() - start, 10)


if __name__ == "__main__":
    unittest.main()
