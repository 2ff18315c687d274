"""A slow and plain workshop, which keeps a list of all that it was, and the lines of texts that are wrong."""

import re
from tests import naive
from tests import naive_trees
from tests.naive_rings import is_place, place_of

INTEGER = "(?:0|-?[1-9][0-9]*)"


def is_relation(thing):
    if type(thing) is not tuple or len(thing) not in (8, 16, 32, 64) or not naive.is_ints(thing, len(thing)):
        return False
    return bool(naive.is_short(thing))


def are_names(thing, many):
    if type(thing) is not tuple or len(thing) != many or not all(type(name) is str for name in thing):
        return False
    return all(re.fullmatch("[a-z]{1,8}", name) for name in thing) and len(set(thing)) == many


def is_tidy_shape(thing, many):
    return naive_trees.is_shape(thing) and naive_trees.outer(thing) == many and naive_trees.tidy(thing) == thing


def last_place(relation, dial, others):
    a, b = [naive.value(relation, others[:dial] + (unit,) + others[dial:]) for unit in ((1, 0), (0, 1))]
    return None if a == b == 0 else place_of(b, -a)


def text_of(relation, names, shape, places):
    text = "relation " + repr(relation)[1:-1].replace(",", "") + "\ndials " + " ".join(names)
    if shape is not None:
        text += "\nshape"
        for node in shape:
            text += " " + repr(node)[1:-1].replace(", ", ",")
    for name, place in zip(names, places):
        if place is not None:
            text += f"\nset {name} {place[0]} {place[1]}"
    return text


class Refused(Exception):
    """The name of an error and what it carries."""


class Model:
    """What a workshop tells after each deed: all of it is kept, and a number says where in it we are."""

    def __init__(self, relation, names):
        self.kept = [(relation, names, None, (None,) * len(names))]
        self.at = 0

    def now(self):
        return self.kept[self.at]

    def deed(self, **fresh):
        state = dict(zip(("relation", "names", "shape", "places"), self.now())) | fresh
        self.kept = self.kept[:self.at + 1] + [tuple(state.values())]
        self.at += 1

    def dial(self, name):
        if type(name) is not str or name not in self.now()[1]:
            raise Refused("NoName", {"name": name})
        return self.now()[1].index(name)

    def put(self, name, place):
        relation, _, _, places = self.now()
        dial = self.dial(name)
        if not is_place(place):
            raise Refused("BadPlace", {"thing": place})
        fresh = places[:dial] + (place,) + places[dial + 1:]
        if None not in fresh and naive.value(relation, fresh) != 0:
            raise Refused("DoesNotHold", {"places": fresh})
        self.deed(places=fresh)

    def clear(self, name):
        dial = self.dial(name)
        places = list(self.now()[3])
        places[dial] = None
        self.deed(places=tuple(places))

    def turn(self, name, change):
        relation, names, _, places = self.now()
        dial = self.dial(name)
        if not naive.is_change(change):
            raise Refused("BadChange", {"thing": change})
        p, q, r, s = change
        changes = [(1, 0, 0, 1)] * len(names)
        changes[dial] = (s, -q, -r, p)
        if places[dial] is not None:
            a, b = places[dial]
            places = places[:dial] + (place_of(p * a + q * b, r * a + s * b),) + places[dial + 1:]
        self.deed(relation=naive.changed(relation, changes), places=places)

    def swap(self, one, other):
        first, second = self.dial(one), self.dial(other)
        names = list(self.now()[1])
        names[first], names[second] = names[second], names[first]
        self.deed(names=tuple(names))

    def choose(self, shape):
        relation, names, _, _ = self.now()
        if not is_tidy_shape(shape, len(names)):
            raise Refused("BadShape", {"thing": shape})
        if not naive_trees.fits(relation, shape):
            raise Refused("DoesNotFit", None)
        self.deed(shape=shape)

    def drop(self):
        self.deed(shape=None)

    def last(self, name):
        relation, _, _, places = self.now()
        dial = self.dial(name)
        others = places[:dial] + places[dial + 1:]
        if places[dial] is not None or None in others:
            raise Refused("NotTheLast", {"name": name})
        return last_place(relation, dial, others)

    def undo(self):
        if self.at == 0:
            raise Refused("NothingToUndo", {})
        self.at -= 1

    def redo(self):
        if self.at == len(self.kept) - 1:
            raise Refused("NothingToRedo", {})
        self.at += 1


def wrong_line(text):
    """The number with which no workshop has a text, None if one has it."""
    if type(text) is not str:
        return 0
    lines = text.split("\n")
    if not re.fullmatch(f"relation(?: {INTEGER})+", lines[0]):
        return 1
    relation = tuple(int(word) for word in lines[0].split()[1:])
    if not is_relation(relation):
        return 1
    many = naive_trees.count_dials(relation)
    names = tuple(lines[1].split(" ")[1:]) if len(lines) > 1 else ()
    if not are_names(names, many) or lines[1].split(" ")[0] != "dials":
        return 2
    places = [None] * many
    for number, line in enumerate(lines[2:], 3):
        if number == 3 and re.fullmatch(f"shape(?: {INTEGER}(?:,{INTEGER})*)+", line):
            shape = tuple(tuple(int(end) for end in node.split(",")) for node in line.split(" ")[1:])
            if not is_tidy_shape(shape, many) or not naive_trees.fits(relation, shape):
                return number
            continue
        found = re.fullmatch(f"set ([a-z]+) ({INTEGER}) ({INTEGER})", line)
        if not found or found[1] not in names:
            return number
        dial, place = names.index(found[1]), (int(found[2]), int(found[3]))
        if not is_place(place) or any(one is not None for one in places[dial:]):
            return number
        places[dial] = place
        if None not in places and naive.value(relation, places) != 0:
            return number
    return None
