"""[0.2] Any value in the place of each argument: the error that is told, with this very value, or False."""

import unittest
from rulertrees import errors
from rulertrees.workshops import Workshop
from tests.helpers import Case, INTERFACE, ODD_VALUES, SHOP, exact, function_of, outcome, otherwise_values

CUBE = (0, 1, 0, 0, 0, 0, -1, 0)
PROPER = (0, 1, 2, 0, 3, 0, 1, -1)
OTHER_PROPER = (0, 2, 1, 0, 1, 1, 0, -3)
KNOT = (0, 0, 0, 1, 0, 1, 1, 0, 0, 1, 1, 0, 1, 0, 0, 0)
OF_TREE = (0, 0, 0, 1, 0, 0, 0, 0, 0, 0, 0, 0, 1, 0, 0, -1)
SHAPE = ((0, 1, 4), (2, 3, 4))
TREE = (SHAPE, (CUBE, (0, 1, 0, 0, 0, 0, 1, -1)))
HANGING = (((0, 1, 2),), (CUBE,))
RING = ((CUBE, (4, 1)), (CUBE, (1, 2)))
STAY = (1, 0, 0, 1)
PLACES = ((2, 1), (3, 1), (6, 1))
RULER = ((1, 0, 0), (0, 1, 0))
CHART = (((1, 0, 0), (0, 1, 0)), ((0, 1, 0), (0, 0, 1)), ((0, 0, 1), (1, 0, 0)))
BENT = (2, STAY, ((0, -1, 0), (-1, 0, 1)))
FORM = (2, 1, 3)
FRAME = ((1, 0, 0, 0, 1, 0, 0, 0, 1), (0, 1, 0))
SHEET = (((0, 1), (0, 1)), ((1, 1), (1, 1)))
READING = ((3, 1), (2, 1))
TWO = ((0, 1), (1, 0))
STANDARD = (0, 1, 1, 0, 1, 0, 0, 1)

# Right arguments for each function that names an error or takes any value.
RIGHT = {
    "is_place": ((2, 1),), "is_change": (STAY,), "moved": (STAY, (2, 1)), "change_product": (STAY, STAY),
    "change_inverse": (STAY,), "is_relation": (CUBE,), "value": (CUBE, PLACES), "holds": (CUBE, PLACES),
    "last_place": (CUBE, 2, PLACES[:2]), "changed": (CUBE, (STAY,) * 3), "reordered": (CUBE, (2, 0, 1)),
    "times": (CUBE, (1, 0)), "falls_apart": (CUBE, (0,)), "pieces": (CUBE,), "parts": (CUBE,), "is_whole": (CUBE,),
    "form_of": (CUBE, 0), "cayley": (CUBE,), "sort_of": (CUBE,), "judge_alike": (CUBE, CUBE),
    "alike_holds": (CUBE, CUBE, ("alike", (STAY,) * 3)), "is_positive": (FORM,), "is_whole_change": (STAY,),
    "led_form": (FORM, STAY), "class_of": (FORM,), "reducing": (FORM,), "united": (FORM, FORM),
    "product_class": (FORM, FORM), "upright_forms": (CUBE,), "is_proper": (PROPER,), "made_proper": (CUBE,),
    "judge_whole": (PROPER, OTHER_PROPER), "whole_holds": (PROPER, PROPER, ("whole", (STAY,) * 3)),
    "reduced_cube": (PROPER,), "cubes_of": (FORM, FORM, FORM), "is_point": ((1, 0, 0),), "lies_on": ((1, 0, 0), (0, 1, 0)),
    "line_through": ((1, 0, 0), (0, 1, 0)), "meeting": ((1, 0, 0), (0, 1, 0)), "is_map": (FRAME[0],), "led": FRAME,
    "bow_point": ((2, 1),), "chord": ((2, 1), (1, 0)), "is_ruler": (RULER,), "mark": (RULER, (2, 1)),
    "is_straight": (CHART,), "straight_relation": (CHART,), "straight_reads": (CHART, PLACES),
    "judge_straight": (CUBE,), "straight_holds": (CUBE, ("none", "parts")), "both_charts": (CUBE,),
    "are_alike_charts": (CHART, CHART), "is_bent": (BENT,), "bent_relation": (BENT,), "bent_reads": (BENT, PLACES),
    "bent_chart": (CUBE, 0), "bend_form": (CUBE, 0), "truth_of": ("a / b = c", PLACES),
    "written": (CUBE, ("x", "y", "z")), "table_of": (CUBE, (0,)), "rank_of": (CUBE, (0,)), "judge_split": (CUBE, (0,)),
    "split_holds": (KNOT, (0, 1), ("more", (0, 1, 3), (0, 1, 3))), "ranks": (CUBE,), "standard_of": (CUBE,),
    "to_standard": (CUBE,), "is_shape": (SHAPE,), "tidy": (SHAPE,), "inner_split": (SHAPE, 4), "is_tree": (TREE,),
    "relation_of": (TREE,), "judge_shape": (OF_TREE, SHAPE), "shape_holds": (OF_TREE, SHAPE, ("cubes", TREE[1])),
    "fitting": (CUBE,), "judge_trees": (TREE, TREE), "trees_hold": (TREE, TREE, ("alike", (STAY,))),
    "good_splits": (CUBE,), "strong_splits": (CUBE,), "bundles_of": (CUBE,), "knots_of": (CUBE,),
    "many_shapes": (CUBE,), "is_hanging": (HANGING,), "relation_of_hanging": (HANGING,), "bundle_form": (CUBE, 0),
    "hanging_reads": (HANGING, PLACES), "judge_hanging": (CUBE,), "hangings_of": (CUBE,),
    "hanging_holds": (CUBE, ("hanging", HANGING)), "hung_anew": (SHAPE, 4, 0, 2), "rehangings": (OF_TREE, SHAPE, SHAPE),
    "reads": (TREE, PLACES + PLACES[:1]), "passage": (TREE, PLACES + PLACES[:1]),
    "passage_holds": (TREE, ((2, 1), (3, 1), (5, 1), (-1, 1)), ((6, 1),)), "free_dials": (TREE, PLACES + PLACES[:1]),
    "last_read": (TREE, 3, PLACES), "is_ring": (RING,), "passes": (RING,), "round_at": (RING, 0), "ring_form": (RING, 1),
    "ring_number": (RING,), "edge_form": (RING, 0), "begun_at": (RING, 1), "turned_round": (RING,),
    "seams_changed": (RING, (STAY, STAY)), "is_standing": (RING, ((1, 1), (4, 1))), "judge_ring": (RING,),
    "ring_holds": (RING, ("none", 1)), "standing_with": (RING, 0, (1, 1)), "products": (READING,),
    "told": (2, SHEET, (0, ((1, 1),)), (1, 1)), "is_keen": (2, SHEET, (0, ((2, 1),))), "judge_follows": (2, SHEET, READING),
    "follows_holds": (2, SHEET, READING, ("free", (0, 1, -1, 0))), "judge_spite": (2, SHEET, 1, READING),
    "spite_holds": (2, SHEET, 0, READING, ("out", (), (0, 1, -1, 0))), "is_grid": (TWO,), "is_closed": (TWO,),
    "first_open": (TWO,), "are_orders": ((2,),), "standard_grid": ((2, 2),), "judge_grid": (TWO,),
    "grid_holds": (TWO, ("group", (2,), ((0,), (1,)), ((0,), (1,)), ((0,), (1,)))), "orders_of": (TWO,),
    "many_certificates": (TWO,), "judge_renamed": (TWO, TWO), "renamed_holds": (TWO, TWO, ("renamed", (0, 1), (0, 1), (0, 1))),
    "is_partial": (TWO,), "judge_filling": (TWO,), "filling_holds": (TWO, ("filled", ())), "filling": (TWO,),
}
# What is raised for a wrong argument, by the name of its parameter; the functions of a module may differ.
ERRORS = {
    "change": "BadChange", "place": "BadPlace", "relation": "BadRelation", "places": "BadPlaces", "dial": "BadDial",
    "changes": "BadChanges", "order": "BadOrder", "dials": "BadSplit", "cube": "BadCube", "form": "BadForm",
    "point": "BadPoint", "line": "BadPoint", "map_of": "BadMap", "ruler": "BadRuler", "chart": "BadChart",
    "names": "BadNames", "shape": "BadShape", "tree": "BadTree", "hanging": "BadHanging", "ring": "BadRing",
    "seam": "BadSeam", "link": "BadSeam", "question": "BadQuestion", "answer": "BadPlace", "reading": "BadPlaces",
    "grid": "BadGrid", "orders": "BadOrders",
}
BOTH = {
    "change_product": "BadChange", "times": "BadRelation", "judge_alike": "BadCube", "alike_holds": "BadCube",
    "united": "BadForm", "product_class": "BadForm", "judge_whole": "BadCube", "whole_holds": "BadCube",
    "line_through": "BadPoint", "meeting": "BadPoint", "chord": "BadPlace", "are_alike_charts": "BadChart",
    "judge_trees": "BadTree", "trees_hold": "BadTree", "hung_anew": "BadEnd", "rehangings": "BadShape",
    "judge_renamed": "BadGrid", "renamed_holds": "BadGrid",
}
# Workshops, alone and in all kinds of things.
SHOPS = tuple(thing for thing in ODD_VALUES if "Workshop" in repr(thing)) + (
    Workshop(KNOT, ("a", "b", "c", "d")), ((SHOP,),) * 4, {"x": {"y": [SHOP]}}, [[SHOP]], ("more", SHOP, (0, 1, 2)),
    ("group", SHOP, SHOP, SHOP, SHOP), ("none", SHOP), ("many", (SHOP,) * 3), ("out", (), SHOP), ("free", SHOP))


class AnyValueTest(Case):

    def arguments_with(self, name, at, thing):
        right = RIGHT[name]
        return right[:at] + (thing,) + right[at + 1:]

    def test_the_right_arguments_are_right(self):
        for name, arguments in RIGHT.items():
            found = outcome(lambda: function_of(name)[0](*arguments))
            self.assertEqual(found[0], "returned", (name, found))
            if function_of(name)[1][-1] == "thing":
                self.assertIsInstance(found[1], bool)

    def test_workshops_in_each_place(self):
        for name, arguments in RIGHT.items():
            parameters = function_of(name)[1]
            for at, parameter in enumerate(parameters):
                error = BOTH.get(name, "") if parameter in ("one", "other") else ERRORS.get(parameter, "")
                error = "BadForm" if parameter in ("first", "second", "third") else error
                for thing in SHOPS:
                    if parameter == "thing":
                        self.gives(False, name, *self.arguments_with(name, at, thing))
                    elif error:
                        kind = getattr(errors, error)
                        attribute = "dial" if error == "BadDial" else "thing"
                        self.fails(kind, {attribute: thing}, name, *self.arguments_with(name, at, thing))

    def test_each_parameter_has_an_error_or_takes_any_value(self):
        # For these the document names no error, or one that carries something else than the value.
        rest = {}
        for name in RIGHT:
            for parameter in function_of(name)[1]:
                known = parameter == "thing" or parameter in ERRORS or parameter in ("first", "second", "third")
                if not known and not (parameter in ("one", "other") and name in BOTH):
                    rest.setdefault(parameter, []).append(name)
        self.assertEqual(sorted(rest), ["n", "sheet", "text", "w"])
        for name in INTERFACE["toldback"]:
            if "sheet" in INTERFACE["toldback"][name]:
                right = RIGHT.get(name, (2, SHEET))
                for thing in SHOPS:
                    self.fails(errors.BadSheet, {"at": 0}, name, *(right[:1] + (thing,) + right[2:]))
                self.fails(errors.BadSheet, {"at": 2}, name, *(right[:1] + (SHEET + (SHOP,),) + right[2:]))
                self.fails(errors.BadSheet, {"at": 1}, name, *(right[:1] + ((READING, (SHOP, (1, 1))),) + right[2:]))
        for thing in SHOPS:
            for name, more in (("names_in", ()), ("read_relation", ()), ("truth_of", (PLACES,))):
                self.fails(errors.BadText, {"at": -1}, name, thing, *more)
            self.fails(errors.BadText, {"at": 0}, "read_workshop", thing)

    def test_parts_replaced_by_workshops(self):
        """Each part of each right argument, and of each certificate, is replaced; nothing but a known error comes of it."""
        many = 0
        for name, arguments in RIGHT.items():
            function, parameters = function_of(name)
            for at, parameter in enumerate(parameters):
                if parameter in ("n", "w"):
                    continue
                for thing in otherwise_values(arguments[at]):
                    if "Workshop" not in repr(thing):
                        continue
                    many += 1
                    found = outcome(lambda: function(*self.arguments_with(name, at, thing)))
                    if parameter == "thing":
                        self.assertTrue(exact(found, ("returned", False)), (name, thing, found))
                    else:
                        self.assertEqual(found[0], "raised", (name, thing))
                        self.assertTrue(issubclass(found[1], errors.RulerError), (name, thing, found))
        self.assertGreater(many, 1000)

    def test_the_workshops_stay_as_they_are(self):
        self.assertEqual(SHOP.text(), "relation 0 1 0 0 0 0 -1 0\ndials x y z\nset x 2 1")


if __name__ == "__main__":
    unittest.main()
