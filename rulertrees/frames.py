"""Frames: nodes with three ends or more, which inner dials tie to a tree. Shapes are frames, too."""

from rulertrees.items import other_dials
from rulertrees.kinds import is_integers

LEAST_OUTER = 3
MOST_OUTER = 6


def is_node(thing):
    """Whether any value is an ascending tuple of three unlike integers or more."""
    if not isinstance(thing, tuple) or len(thing) < 3 or not is_integers(thing, len(thing)):
        return False
    return all(low < high for low, high in zip(thing, thing[1:]))


def outer_of(frame):
    """How many outer dials a frame has."""
    return sum(len(node) for node in frame) - 2 * (len(frame) - 1)


def inner_dials(frame):
    """The inner dials of a frame, ascending."""
    many = outer_of(frame)
    return tuple(range(many, many + len(frame) - 1))


def is_frame(thing):
    """Whether any value is a frame."""
    if not isinstance(thing, tuple) or not thing or not all(is_node(node) for node in thing):
        return False
    if not LEAST_OUTER <= outer_of(thing) <= MOST_OUTER:
        return False
    inner = inner_dials(thing)
    wanted = tuple(range(outer_of(thing))) + inner + inner
    if sorted([end for node in thing for end in node]) != sorted(wanted):
        return False
    return len(reached(thing, 0, None)) == len(thing)


def share_end(one, other, barred):
    """Whether two nodes have an end in common that is not the barred one."""
    return any(end in other and end != barred for end in one)


def reached(frame, start, barred):
    """The numbers of the nodes that are reached from one over inner dials, a barred one excepted."""
    found = [start]
    done = 0
    while done < len(found):
        node = frame[found[done]]
        for at, other in enumerate(frame):
            if at not in found and share_end(node, other, barred):
                found.append(at)
        done += 1
    return found


def outer_behind(frame, start, barred):
    """The ascending tuple of the outer dials that are reached from a node, an inner dial being barred."""
    many = outer_of(frame)
    return tuple(sorted([end for at in reached(frame, start, barred) for end in frame[at] if end < many]))


def node_with(frame, end):
    """The number of the first node that has an end."""
    return [at for at, node in enumerate(frame) if end in node][0]


def split_at(frame, dial):
    """The split of an inner dial."""
    return outer_behind(frame, node_with(frame, 0), dial)


def splits_at(frame):
    """The splits of the inner dials, ascending as these do."""
    return tuple(split_at(frame, dial) for dial in inner_dials(frame))


def node_behind(frame, at, dial):
    """The number of the node that an inner dial ties to the node of a number."""
    return [other for other, node in enumerate(frame) if dial in node and other != at][0]


def behind_end(frame, at, end):
    """The ascending tuple of the outer dials that stand behind an end of the node of a number."""
    if end < outer_of(frame):
        return (end,)
    return outer_behind(frame, node_behind(frame, at, end), end)


def tidied(frame):
    """The tidy frame that a frame becomes."""
    many = outer_of(frame)
    ordered = sorted(zip(splits_at(frame), inner_dials(frame)))
    fresh = {dial: many + at for at, (_, dial) in enumerate(ordered)}
    return tuple(sorted([tuple(sorted([fresh.get(end, end) for end in node])) for node in frame]))


def corners(many, one, other):
    """The dials in both of two splits, in the first one alone, in the second one alone, and in neither."""
    return tuple(
        tuple(dial for dial in range(many) if (dial in one) == in_one and (dial in other) == in_other)
        for in_one, in_other in ((True, True), (True, False), (False, True), (False, False))
    )


def is_within(one, other):
    """Whether all dials of one tuple are in another one."""
    return all(dial in other for dial in one)


def ends_within(cluster, clusters, many):
    """The ends of the node of a cluster other than the one that leads out of it."""
    inside = [at for at, one in enumerate(clusters) if one != cluster and is_within(one, cluster)]
    greatest = [
        at for at in inside if not any(at != other and is_within(clusters[at], clusters[other]) for other in inside)
    ]
    kept = [dial for dial in cluster if not any(dial in clusters[at] for at in greatest)]
    return kept + [many + at for at in greatest]


def frame_of_splits(many, splits):
    """The tidy frame whose inner dials have just these splits, ascending, none of which cross."""
    # What such splits leave lies within one another or apart, and does not contain the dial 0.
    clusters = [other_dials(many, split) for split in splits]
    nodes = [ends_within(tuple(range(many)), clusters, many)]
    for at, cluster in enumerate(clusters):
        nodes.append(ends_within(cluster, clusters, many) + [many + at])
    return tuple(sorted([tuple(sorted(node)) for node in nodes]))
