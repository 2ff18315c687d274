"""What the tests share: any values, calls by position and by name, and values with one thing otherwise."""

import copy
import importlib
import unittest
from rulertrees.workshops import Workshop

# The interface of DOC.md: the parameters of each function, under the module that lists it.
INTERFACE = {
    "integers": {
        "is_square": ("number",), "differ_by_square": ("one", "other"), "square_class": ("number",),
        "shortened": ("numbers",),
    },
    "places": {
        "is_place": ("thing",), "place_of": ("a", "b"), "is_change": ("thing",), "moved": ("change", "place"),
        "change_product": ("one", "other"), "change_inverse": ("change",), "change_between": ("ones", "others"),
    },
    "relations": {
        "is_relation": ("thing",), "dials_of": ("relation",), "value": ("relation", "places"),
        "holds": ("relation", "places"), "last_place": ("relation", "dial", "places"),
        "changed": ("relation", "changes"), "reordered": ("relation", "order"), "times": ("one", "other"),
    },
    "pieces": {
        "falls_apart": ("relation", "dials"), "pieces": ("relation",), "parts": ("relation",),
        "is_whole": ("relation",),
    },
    "cubes": {
        "form_of": ("cube", "dial"), "cayley": ("cube",), "sort_of": ("cube",), "standard": ("s",),
        "judge_alike": ("one", "other"), "alike_holds": ("one", "other", "thing"),
    },
    "gaussforms": {
        "is_positive": ("thing",), "is_whole_change": ("thing",), "led_form": ("form", "change"),
        "class_of": ("form",), "reducing": ("form",), "first_form": ("discriminant",),
        "form_classes": ("discriminant",), "united": ("one", "other"), "product_class": ("one", "other"),
    },
    "wholecubes": {
        "upright_forms": ("cube",), "is_proper": ("thing",), "made_proper": ("cube",),
        "judge_whole": ("one", "other"), "whole_holds": ("one", "other", "thing"), "reduced_cube": ("cube",),
        "cubes_of": ("first", "second", "third"), "reduced_cubes": ("discriminant",),
    },
    "plane": {
        "is_point": ("thing",), "lies_on": ("point", "line"), "line_through": ("one", "other"),
        "meeting": ("one", "other"), "are_in_line": ("points",), "is_map": ("thing",),
        "led": ("map_of", "point"), "map_between": ("ones", "others"), "bow_point": ("place",),
        "chord": ("one", "other"),
    },
    "straight": {
        "is_ruler": ("thing",), "mark": ("ruler", "place"), "is_straight": ("thing",),
        "straight_relation": ("chart",), "straight_reads": ("chart", "places"), "judge_straight": ("cube",),
        "straight_holds": ("cube", "thing"), "both_charts": ("cube",), "are_alike_charts": ("one", "other"),
    },
    "bent": {
        "is_bent": ("thing",), "bent_relation": ("chart",), "bent_reads": ("chart", "places"),
        "bent_chart": ("cube", "dial"), "bend_form": ("cube", "dial"),
    },
    "language": {
        "names_in": ("text",), "read_relation": ("text",), "truth_of": ("text", "places"),
        "written": ("relation", "names"),
    },
    "splits": {
        "table_of": ("relation", "dials"), "rank_of": ("relation", "dials"), "judge_split": ("relation", "dials"),
        "split_holds": ("relation", "dials", "thing"), "ranks": ("relation",),
    },
    "standards": {
        "standard_relation": ("n", "s"), "standard_of": ("relation",), "to_standard": ("relation",),
    },
    "shapes": {
        "is_shape": ("thing",), "tidy": ("shape",), "inner_split": ("shape", "dial"), "shapes": ("n",),
        "shape_of_splits": ("n", "splits"),
    },
    "trees": {
        "is_tree": ("thing",), "relation_of": ("tree",), "judge_shape": ("relation", "shape"),
        "shape_holds": ("relation", "shape", "thing"), "fitting": ("relation",), "judge_trees": ("one", "other"),
        "trees_hold": ("one", "other", "thing"),
    },
    "families": {
        "good_splits": ("relation",), "strong_splits": ("relation",), "do_cross": ("n", "one", "other"),
        "bundles_of": ("relation",), "knots_of": ("relation",), "many_shapes": ("relation",),
    },
    "hangings": {
        "is_hanging": ("thing",), "relation_of_hanging": ("hanging",), "bundle_form": ("relation", "dial"),
        "hanging_reads": ("hanging", "places"), "judge_hanging": ("relation",), "hangings_of": ("relation",),
        "hanging_holds": ("relation", "thing"), "hung_anew": ("shape", "dial", "one", "other"),
        "rehangings": ("relation", "one", "other"),
    },
    "passages": {
        "reads": ("tree", "places"), "passage": ("tree", "places"), "passage_holds": ("tree", "places", "thing"),
        "free_dials": ("tree", "places"), "last_read": ("tree", "dial", "places"),
    },
    "rings": {
        "is_ring": ("thing",), "passes": ("ring",), "round_at": ("ring", "seam"), "ring_form": ("ring", "seam"),
        "ring_number": ("ring",), "edge_form": ("ring", "link"), "begun_at": ("ring", "seam"),
        "turned_round": ("ring",), "seams_changed": ("ring", "changes"),
    },
    "standings": {
        "is_standing": ("ring", "thing"), "judge_ring": ("ring",), "ring_holds": ("ring", "thing"),
        "standing_with": ("ring", "seam", "place"),
    },
    "toldback": {
        "products": ("reading",), "freedom": ("n", "sheet"), "agreeing": ("n", "sheet"),
        "only_relation": ("n", "sheet"), "next_reading": ("n", "sheet"), "keen_question": ("n", "sheet"),
        "is_keen": ("n", "sheet", "thing"), "told": ("n", "sheet", "question", "answer"),
        "judge_follows": ("n", "sheet", "reading"), "follows_holds": ("n", "sheet", "reading", "thing"),
    },
    "inspite": {
        "relations_in_spite": ("n", "sheet", "w"), "judge_spite": ("n", "sheet", "w", "reading"),
        "spite_holds": ("n", "sheet", "w", "reading", "thing"),
    },
    "grids": {
        "is_grid": ("thing",), "is_closed": ("grid",), "first_open": ("grid",), "are_orders": ("thing",),
        "standard_grid": ("orders",), "judge_grid": ("grid",), "grid_holds": ("grid", "thing"),
        "orders_of": ("grid",), "many_certificates": ("grid",),
    },
    "renaming": {
        "judge_renamed": ("one", "other"), "renamed_holds": ("one", "other", "thing"),
    },
    "fillings": {
        "is_partial": ("thing",), "judge_filling": ("grid",), "filling_holds": ("grid", "thing"),
        "filling": ("grid",),
    },
    "workshops": {
        "read_workshop": ("text",),
    },
}
# The methods of a workshop, with their parameters.
METHODS = {
    "relation": (), "names": (), "shape": (), "places": (), "put": ("name", "place"), "clear": ("name",),
    "turn": ("name", "change"), "swap": ("one", "other"), "choose": ("shape",), "drop": (), "last": ("name",),
    "undo": (), "redo": (), "copied": (), "text": (), "is_same": ("thing",),
}

# "Any value" may also be, or contain, a workshop.
SHOP = Workshop((0, 1, 0, 0, 0, 0, -1, 0), ("x", "y", "z"))
SHOP.put("x", (2, 1))
DEEP = (((((([[[[[["x"]]]]]],),),),),),)

# Values of every kind that "any value" names; some of them are nearly right for some function.
ODD_VALUES = (
    None, True, False, 0, 1, -1, 7, 10 ** 39, -(10 ** 39), "", "x", "alike", "parts", "whole", " ~\n", "a" * 2000,
    (), [], {}, (0,), (1,), [1], (True,), (None,), ((),), ((), ()), "01", "10", ("1", "0"), {1: 0, 0: 1}, {"a": [1]},
    (0, 0), [1, 0], (True, 0), (1, True), (1, False), (2, 2), (-1, 0), (1, -1), (2, 0), (1, 0, 0), (1, (0,)), (1, [0]),
    (0, 0, 0), (2, 4, 6), (-1, 0, 0), (1, 0, True), [1, 0, 0], (1, 0, None), ("1", 0, 0), ((1, 0), (0, 1), (1, 1)),
    (0, 0, 0, 0), [1, 0, 0, 1], (True, 0, 0, True), (1, 2, 2, 4), (1, 0, 0), (1, 0, 0, 1, 0), ("1", 0, 0, 1),
    ((1, 0), (0, 1)), [[1, 0], [0, 1]], ((1, 0, 0, 1),), [(1, 0, 0, 1)], (0,) * 8, [0, 1, 1, 0, 1, 0, 0, 1],
    (0, 1, 1, 0, 1, 0, 0, True), (0, -1, 1, 0, 1, 0, 0, 1), (0, 2, 2, 0, 2, 0, 0, 2), (0, 1, 1, 0, 1, 0, 0),
    (0, 1, 1, 0, 1, 0, 0, None), (0, 1, 1, 0, 1, 0, 0, "1"), ((0, 1, 1, 0), (1, 0, 0, 1)), (1,) + (0,) * 8,
    (1,) + (0,) * 127, (0,) * 64, (0,) * 3000, {"alike": 1}, ("alike",), ("alike", ()), ("unlike", (), ()),
    ("alike", None), ("unlike", ("parts",), ("parts",)), ("whole", ()), ("apart", 0, (), ()), (["full", 1],), DEEP,
    (1, 0, 0, 0, 1, 0, 0, 0, 0), (1, 0, 0, 0, 1, 0, 0, 0, True), [1, 0, 0, 0, 1, 0, 0, 0, 1],
    SHOP, (SHOP,), [SHOP], {"a": SHOP}, (1, SHOP), (SHOP, 1), (1, 0, SHOP), (1, 0, 0, SHOP), (SHOP, SHOP, SHOP),
    (0, 1, 1, 0, 1, 0, 0, SHOP), (SHOP,) * 8, ((1, 0), SHOP, (0, 1)), ("alike", SHOP), ("cubes", SHOP), (SHOP, ()),
)


def function_of(name):
    """The module and the parameters of a function of the interface."""
    for module, table in INTERFACE.items():
        if name in table:
            return getattr(importlib.import_module("rulertrees." + module), name), table[name]
    raise KeyError(name)


def outcome(action):
    """What a call returns, or the error that it raises with its attributes, to be compared."""
    try:
        return ("returned", action())
    except Exception as error:
        return ("raised", error.__class__, vars(error))


def exact(one, other):
    """Whether two values are equal and of the same kinds throughout: True is not 1, and a list is no tuple."""
    if type(one) is not type(other):
        return False
    if isinstance(one, (tuple, list)):
        return len(one) == len(other) and all(exact(a, b) for a, b in zip(one, other))
    if isinstance(one, dict):
        return exact(list(one.items()), list(other.items()))
    if isinstance(one, Workshop):
        return exact(vars(one), vars(other))
    return one == other


def otherwise_values(thing):
    """The value with one thing otherwise, at any depth; some results may equal it for Python."""
    yield from (None, True, [thing], (thing,), "x", SHOP)
    if isinstance(thing, bool):
        yield int(thing)
    elif isinstance(thing, int):
        yield from (thing + 1, thing - 1, -thing, bool(thing), str(thing), thing + 10 ** 30)
    elif isinstance(thing, str):
        yield from (thing + "x", thing[:-1], thing.upper(), "alike", "unlike", "whole", "apart", "full", "parts")
    elif isinstance(thing, tuple):
        yield from (list(thing), thing + (0,), thing + thing[:1], (0,) + thing, thing[1:], thing[:-1], thing[::-1])
        yield from (thing + (None,), dict(enumerate(thing)))
        for at, part in enumerate(thing):
            for fresh in otherwise_values(part):
                yield thing[:at] + (fresh,) + thing[at + 1:]
        for at in range(1, len(thing)):
            for ahead in range(at):
                yield thing[:ahead] + (thing[at],) + thing[ahead + 1:at] + (thing[ahead],) + thing[at + 1:]


class Case(unittest.TestCase):
    """A test case that calls each function by position and by name."""

    def call(self, name, *arguments):
        """What the function returns, the same by position and by name, its arguments being left as they were."""
        function, parameters = function_of(name)
        self.assertEqual(len(parameters), len(arguments), name)
        before = copy.deepcopy(arguments)
        by_position = outcome(lambda: function(*arguments))
        by_name = outcome(lambda: function(**dict(zip(parameters, arguments))))
        self.assertTrue(exact(arguments, before), (name, before))
        self.assertEqual(by_position[0], by_name[0], (name, arguments))
        if by_position[0] == "raised":
            self.assertIs(by_position[1], by_name[1])
            self.assertTrue(exact(by_position[2], by_name[2]))
            return function(*arguments)
        self.assertTrue(exact(by_position[1], by_name[1]), (name, arguments))
        return by_position[1]

    def gives(self, expected, name, *arguments):
        """The function returns just this value, bools and tuples told apart from what equals them."""
        found = self.call(name, *arguments)
        self.assertTrue(exact(found, expected), (name, arguments, found, expected))

    def fails(self, error, attributes, name, *arguments):
        """The function raises just this error with just these attributes."""
        with self.assertRaises(Exception) as caught:
            self.call(name, *arguments)
        self.assertIs(caught.exception.__class__, error, (name, arguments, caught.exception))
        self.assertTrue(exact(vars(caught.exception), attributes), (name, arguments, vars(caught.exception)))
