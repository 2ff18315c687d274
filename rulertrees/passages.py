"""Passages: the places of the inner dials with which a tree reads places of its outer dials."""

from rulertrees.frames import inner_dials, node_behind, node_with, outer_of, reached
from rulertrees.places import FAR, are_places
from rulertrees.relations import check_dial, check_places, holds, last_place
from rulertrees.trees import check_tree


def check_tree_and_places(tree, places):
    """Raises BadTree or BadPlaces unless there is a tree and a place for each of its outer dials."""
    check_tree(tree)
    check_places(places, outer_of(tree[0]))


def place_behind(tree, places, at, end):
    """The one place that what stands behind an end of a node leaves for this end, None if it leaves every place.

    Behind an outer dial stands its own place.
    """
    shape, cubes = tree
    if end < len(places):
        return places[end]
    behind = node_behind(shape, at, end)
    seen = places_behind(tree, places, behind, end)
    # A dial that may be at every place has a place that makes the cube hold, wherever the others are.
    if None in seen:
        return None
    return last_place(cubes[behind], shape[behind].index(end), seen)


def places_behind(tree, places, at, barred):
    """What is left for the ends of a node, a barred one excepted."""
    return tuple(place_behind(tree, places, at, end) for end in tree[0][at] if end != barred)


def reads(tree, places):
    """Whether a tree reads places of its outer dials."""
    check_tree_and_places(tree, places)
    seen = places_behind(tree, places, 0, None)
    return None in seen or holds(tree[1][0], seen)


def settled(cube, seen):
    """Places at which a cube holds: the given ones, and any that will do where None is given.

    If no None is given, it holds at the given ones.
    """
    free = [at for at, place in enumerate(seen) if place is None]
    if not free:
        return seen
    last = free[-1]
    found = [FAR if place is None else place for place in seen]
    place = last_place(cube, last, tuple(found[:last] + found[last + 1:]))
    return found if place is None else found[:last] + [place] + found[last + 1:]


def passage(tree, places):
    """A passage of a tree at places of its outer dials, None if there is none."""
    if not reads(tree, places):
        return None
    shape, cubes = tree
    found = dict(enumerate(places))
    # One end of each next node is settled already, at a place that what stands behind the other ends leaves for it.
    for at in reached(shape, 0, None):
        seen = [found[end] if end in found else place_behind(tree, places, at, end) for end in shape[at]]
        for end, place in zip(shape[at], settled(cubes[at], seen)):
            found[end] = place
    return tuple(found[dial] for dial in inner_dials(shape))


def passage_holds(tree, places, thing):
    """Whether any value is a passage of a tree at places of its outer dials."""
    check_tree_and_places(tree, places)
    shape, cubes = tree
    if not are_places(thing, len(inner_dials(shape))):
        return False
    # The inner dials have the next numbers behind the outer ones.
    at_ends = places + thing
    return all(holds(cube, tuple(at_ends[end] for end in node)) for node, cube in zip(shape, cubes))


def is_free(tree, places, dial):
    """Whether what stands on either side of an inner dial leaves every place for it."""
    ends_at = [at for at, node in enumerate(tree[0]) if dial in node]
    return all(place_behind(tree, places, at, dial) is None for at in ends_at)


def free_dials(tree, places):
    """The ascending tuple of the inner dials to which passages give more than one place; None without a passage."""
    if not reads(tree, places):
        return None
    return tuple(dial for dial in inner_dials(tree[0]) if is_free(tree, places, dial))


def last_read(tree, dial, places):
    """The place of an outer dial that a tree reads with places of all the others; None if it reads every one."""
    check_tree(tree)
    shape, cubes = tree
    many = outer_of(shape)
    check_dial(dial, many)
    check_places(places, many - 1)
    at = node_with(shape, dial)
    # Nothing asks for the place of the dial itself.
    seen = places_behind(tree, places[:dial] + (None,) + places[dial:], at, dial)
    return None if None in seen else last_place(cubes[at], shape[at].index(dial), seen)
