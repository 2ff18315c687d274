"""Slow and plain answers about shapes, trees and hangings, straight from the definitions of DOC.md."""

import itertools
import math
import random
from tests import naive


def outer(frame):
    """How many outer dials stand in a frame: those ends that stand in it once."""
    ends = [end for node in frame for end in node]
    return sum(1 for end in ends if ends.count(end) == 1)


def is_frame(thing, only_three=False):
    if type(thing) is not tuple or not thing or len(thing) > 4 or not all(type(node) is tuple for node in thing):
        return False
    if not all(3 <= len(node) <= 6 and naive.is_ints(node, len(node)) for node in thing):
        return False
    if any(list(node) != sorted(set(node)) for node in thing) or (only_three and any(len(node) > 3 for node in thing)):
        return False
    ends = [end for node in thing for end in node]
    for count in range(3, 7):
        inner = list(range(count, count + len(thing) - 1))
        if sorted(ends) == sorted(list(range(count)) + inner + inner):
            return len(component(thing, 0, None)) == len(thing)
    return False


def is_shape(thing):
    return is_frame(thing, True) and len(thing) == outer(thing) - 2


def component(frame, start, cut):
    """The numbers of the nodes that hang together with one of them when an inner dial is cut."""
    found = {start}
    while True:
        more = {at for at, node in enumerate(frame)
                if any(set(node) & set(frame[other]) - {cut} for other in found)} | found
        if more == found:
            return found
        found = more


def inner_split(frame, dial):
    count = outer(frame)
    start = next(at for at, node in enumerate(frame) if 0 in node)
    return tuple(sorted(end for at in component(frame, start, dial) for end in frame[at] if end < count))


def inner_dials(frame):
    return list(range(outer(frame), outer(frame) + len(frame) - 1))


def inner_splits(frame):
    return [inner_split(frame, dial) for dial in inner_dials(frame)]


def renumbered(frame, numbers):
    """The frame with other numbers for some ends, its nodes in the same order."""
    return tuple(tuple(sorted(numbers.get(end, end) for end in node)) for node in frame)


def tidy(frame):
    """The one renumbered frame with ascending nodes whose inner splits ascend."""
    found = []
    inner = inner_dials(frame)
    for order in itertools.permutations(inner):
        other = renumbered(frame, dict(zip(inner, order)))
        if inner_splits(other) == sorted(inner_splits(other)):
            found.append(tuple(sorted(other)))
    assert len(found) == 1
    return found[0]


def all_shapes(count):
    """All tidy shapes: a further outer dial is put on each end of each shape with one outer dial fewer."""
    if count == 3:
        return [((0, 1, 2),)]
    found = set()
    for shape in all_shapes(count - 1):
        # The inner dials make room for the new outer dial, and the new inner dial is the last one.
        shape = renumbered(shape, {dial: dial + 1 for dial in inner_dials(shape)})
        fresh = 2 * count - 4
        for at, node in enumerate(shape):
            for end in node:
                nodes = list(shape)
                nodes[at] = tuple(sorted([fresh if other == end else other for other in node]))
                found.add(tidy(tuple(nodes) + (tuple(sorted((end, count - 1, fresh))),)))
    return sorted(found)


def relation_items(frame, relations):
    """The items: each inner dial is summed over its two unlike bits, with a sign, at its two nodes."""
    count, inner = outer(frame), inner_dials(frame)
    items = []
    for bits in naive.bits_of(count):
        total = 0
        for inner_bits in naive.bits_of(len(inner)):
            term = (-1) ** sum(inner_bits)
            seen = {}
            for node, relation in zip(frame, relations):
                index = 0
                for end in node:
                    if end < count:
                        bit = bits[end]
                    else:
                        # The first node takes the bit, and the second one the other one.
                        bit = inner_bits[inner.index(end)] ^ (1 if end in seen else 0)
                        seen[end] = True
                    index = 2 * index + bit
                term *= relation[index]
            total += term
        items.append(total)
    return tuple(items)


def relation_of(frame, relations):
    items = relation_items(frame, relations)
    return naive.short(items) if any(items) else None


def reads(frame, relations, places):
    """Whether there are inner places at which all nodes hold, from the leaves of the tree to its root."""
    count = outer(frame)

    def told(at, dial):
        """What is left of a node for the dial that leads to its root: a place, None if free; or whether it holds."""
        ends = frame[at]
        set_places, free = [], False
        for end in ends:
            if end == dial:
                set_places.append(None)
            elif end < count:
                set_places.append(places[end])
            else:
                below = next(k for k, node in enumerate(frame) if end in node and k != at)
                found = told(below, end)
                free = free or found is None
                set_places.append(found)
        if free:
            # With a free dial the node can hold, wherever the others are.
            return None if dial is not None else True
        if dial is None:
            return naive.value(relations[at], set_places) == 0
        k = ends.index(dial)
        a, b = [naive.value(relations[at], set_places[:k] + [place] + set_places[k + 1:]) for place in ((1, 0), (0, 1))]
        return None if a == b == 0 else (b, -a)

    return told(0, None)


def rank(relation, dials):
    return naive.rank(naive.table(relation, dials))


def count_dials(relation):
    return len(relation).bit_length() - 1


def splits_of(count):
    """The ascending splits with the dial 0, two dials or more on either side."""
    return sorted((0,) + rest for size in range(1, count - 2) for rest in itertools.combinations(range(1, count), size))


def fits(relation, shape):
    return all(rank(relation, split) <= 2 for split in inner_splits(shape))


def shape_holds(relation, shape, thing):
    if type(thing) is not tuple or len(thing) < 2 or type(thing[0]) is not str:
        return False
    if thing[0] == "cubes" and len(thing) == 2:
        cubes = thing[1]
        if type(cubes) is not tuple or len(cubes) != len(shape):
            return False
        if not all(naive.is_ints(cube, 8) and naive.is_short(cube) for cube in cubes):
            return False
        return relation_of(shape, cubes) == relation
    if thing[0] != "inner" or len(thing) != 4 or not naive.is_int(thing[1]) or thing[1] not in inner_dials(shape):
        return False
    rows = naive.table(relation, inner_split(shape, thing[1]))
    for numbers, count in ((thing[2], len(rows)), (thing[3], len(rows[0]))):
        if not naive.is_ints(numbers, 3) or numbers not in itertools.combinations(range(count), 3):
            return False
    return naive.determinant([[rows[row][column] for column in thing[3]] for row in thing[2]]) != 0


def trees_hold(one, other, thing):
    if type(thing) is not tuple or len(thing) < 2 or type(thing[0]) is not str:
        return False
    shape = one[0]
    if thing[0] == "relations" and len(thing) == 3:
        told = (relation_of(*one), relation_of(*other))
        return told[0] != told[1] and repr(thing[1:]) == repr(told)
    if thing[0] != "alike" or len(thing) != 2 or type(thing[1]) is not tuple:
        return False
    inner = inner_dials(shape)
    if len(thing[1]) != len(inner) or not all(naive.is_change(change) for change in thing[1]):
        return False
    by_dial = dict(zip(inner, thing[1]))
    return all(
        cube == naive.changed(other_cube, [by_dial.get(end, (1, 0, 0, 1)) for end in node])
        for node, cube, other_cube in zip(shape, one[1], other[1])
    )


def cross(count, one, other):
    one, other, everything = set(one), set(other), set(range(count))
    return all((one & other, one - other, other - one, everything - one - other))


def good_splits(relation):
    return [split for split in splits_of(count_dials(relation)) if rank(relation, split) == 2]


def strong_splits(relation):
    good, count = good_splits(relation), count_dials(relation)
    return [split for split in good if not any(cross(count, split, other) for other in good)]


def is_whole(relation):
    count = count_dials(relation)
    return count > 1 and all(rank(relation, dials) > 1 for size in range(1, count)
                             for dials in itertools.combinations(range(count), size))


def is_standard(relation):
    """Whether a relation is alike to a standard one."""
    return is_whole(relation) and all(rank(relation, split) <= 2 for split in splits_of(count_dials(relation)))


def is_knot(relation):
    return count_dials(relation) > 3 and is_whole(relation) and not good_splits(relation)


def set_at(relation, kept, places):
    """The relation of three dials, ascending, that is left when all others are set at places; None if it is 0."""
    count = count_dials(relation)
    items = []
    for bits in naive.bits_of(3):
        told = dict(zip(kept, bits))
        items.append(naive.value(relation, [
            (1 - told[dial], told[dial]) if dial in told else places[dial] for dial in range(count)]))
    return naive.short(tuple(items)) if any(items) else None


def some_whole_cube(relation, kept, seed):
    """A whole cube of three dials, the others being set at places chosen at random."""
    chance = random.Random(seed)
    while True:
        places = [(chance.randrange(-9, 10), chance.randrange(1, 6)) for _ in range(count_dials(relation))]
        cube = set_at(relation, kept, places)
        if cube is not None and is_whole(cube):
            return cube


def dial_form(relation, dial, seed):
    """The form of a dial of a bundle."""
    if count_dials(relation) == 3:
        return naive.short(naive.form(relation, dial))
    chance = random.Random(seed)
    others = chance.sample([other for other in range(count_dials(relation)) if other != dial], 2)
    kept = sorted(others + [dial])
    return naive.short(naive.form(some_whole_cube(relation, kept, seed), kept.index(dial)))


def are_class(number, s):
    """Whether s is the square class of Cayley's number, 0 if that is 0."""
    if number == 0 or s == 0:
        return number == s
    return number * s > 0 and math.isqrt(number * s) ** 2 == number * s


def is_hanging(thing):
    if type(thing) is not tuple or len(thing) != 2 or not is_frame(thing[0]) or tidy(thing[0]) != thing[0]:
        return False
    frame, relations = thing
    if type(relations) is not tuple or len(relations) != len(frame):
        return False
    return all(naive.is_ints(relation, 2 ** len(node)) and naive.is_short(relation)
               for node, relation in zip(frame, relations))


def is_right_hanging(relation, hanging):
    """Whether a hanging has the properties of [10.5] for a relation."""
    if not is_whole(relation) or not is_hanging(hanging) or relation_of(*hanging) != relation:
        return False
    frame, relations = hanging
    if sorted(inner_splits(frame)) != strong_splits(relation):
        return False
    if not all(is_standard(node) or is_knot(node) for node in relations):
        return False
    for dial in inner_dials(frame):
        pair = [(node, told) for node, told in zip(frame, relations) if dial in node]
        if all(is_standard(told) for _, told in pair):
            forms = [dial_form(told, node.index(dial), 7) for node, told in pair]
            if forms[0] == forms[1]:
                return False
    return True


def hanging_holds(relation, thing):
    if type(thing) is not tuple or len(thing) != 2 or type(thing[0]) is not str:
        return False
    if thing[0] == "falls":
        dials, count = thing[1], count_dials(relation)
        if type(dials) is not tuple or not 0 < len(dials) < count or not naive.is_ints(dials, len(dials)):
            return False
        return dials in itertools.combinations(range(count), len(dials)) and rank(relation, dials) == 1
    return thing[0] == "hanging" and is_right_hanging(relation, thing[1])


def behind(frame, at, end):
    """The outer dials behind an end of a node."""
    count = outer(frame)
    if end < count:
        return (end,)
    other = next(k for k, node in enumerate(frame) if end in node and k != at)
    return tuple(sorted(dial for k in component(frame, other, end) for dial in frame[k] if dial < count))


def partition(frame, at):
    return tuple(sorted(behind(frame, at, end) for end in frame[at]))


def merged(frame, dial):
    """The frame whose two nodes at an inner dial have become one."""
    ends = sorted({end for node in frame if dial in node for end in node} - {dial})
    nodes = [node for node in frame if dial not in node] + [tuple(ends)]
    return tidy(renumbered(nodes, {end: end - 1 for node in nodes for end in node if end > dial}))


def all_frames(count):
    """All tidy frames: inner dials of shapes are taken away, one after the other."""
    found = set(all_shapes(count))
    fresh = found
    while fresh:
        fresh = {merged(frame, dial) for frame in fresh for dial in inner_dials(frame)} - found
        found |= fresh
    return sorted(found)


def exchanged(shape, dial, one, other):
    """The shape in which the ends one and other of the two nodes at an inner dial have changed places."""
    return tidy(tuple(
        tuple(sorted({one: other, other: one}.get(end, end) if dial in node else end for end in node))
        for node in shape))


def exchanges(shape):
    """All (dial, one, other) at which ends of a shape can be exchanged."""
    found = []
    for dial in inner_dials(shape):
        first, second = [[end for end in node if end != dial] for node in shape if dial in node]
        found += [(dial, one, other) for one in first for other in second]
    return found
