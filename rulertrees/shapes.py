"""Shapes of trees, and the splits of their inner dials."""

from itertools import combinations
from rulertrees.errors import BadDial, BadShape
from rulertrees.frames import corners, frame_of_splits, inner_dials, is_frame, split_at, tidied
from rulertrees.kinds import is_integer
from rulertrees.splits import splits_of


def is_shape(thing):
    """Whether any value is a shape."""
    return is_frame(thing) and all(len(node) == 3 for node in thing)


def check_shape(thing):
    """Raises BadShape with any value that is no shape."""
    if not is_shape(thing):
        raise BadShape(thing)


def check_inner_dial(shape, dial):
    """Raises BadDial with any value that is no inner dial of a shape."""
    if not is_integer(dial) or dial not in inner_dials(shape):
        raise BadDial(dial)


def tidy(shape):
    """The tidy shape that a shape becomes."""
    check_shape(shape)
    return tidied(shape)


def inner_split(shape, dial):
    """The split of an inner dial of a shape."""
    check_shape(shape)
    check_inner_dial(shape, dial)
    return split_at(shape, dial)


def shapes_among(many, splits):
    """The ascending tuple of the tidy shapes all of whose inner splits are among ascending ones."""
    level = {pair: True for pair in combinations(list(splits), 2) if not all(corners(many, pair[0], pair[1]))}
    found = []
    for chosen in combinations(list(splits), int(many - 3)):
        if all([pair in level for pair in combinations(list(chosen), 2)]):
            found.append(frame_of_splits(many, chosen))
    return tuple(sorted(found))


def shapes(n):
    """The ascending tuple of all tidy shapes of n outer dials."""
    return shapes_among(n, splits_of(n, 2))


def shape_of_splits(n, splits):
    """The tidy shape whose inner dials have just these splits, None if there is none."""
    if len(splits) != n - 3 or len(set(splits)) < len(splits):
        return None
    found = shapes_among(n, sorted(splits))
    return found[0] if found else None
