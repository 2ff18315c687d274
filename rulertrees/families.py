"""Good and strong splits of whole relations, and the bundles and knots that they tell."""

from rulertrees.frames import behind_end, corners, frame_of_splits
from rulertrees.items import count_dials, other_dials
from rulertrees.pieces import check_whole
from rulertrees.settings import cube_within
from rulertrees.splits import rank_of, splits_of
from rulertrees.standards import class_of_cube


def good_splits(relation):
    """The ascending tuple of the good splits of a whole relation that have the dial 0."""
    check_whole(relation)
    return tuple(dials for dials in splits_of(count_dials(relation), 2) if rank_of(relation, dials) == 2)


def do_cross(n, one, other):
    """Whether two splits of n dials cross."""
    return all(corners(n, one, other))


def strong_among(many, good):
    """The splits among good ones that none of them crosses."""
    return tuple(one for one in good if not any(do_cross(many, one, other) for other in good))


def strong_splits(relation):
    """The ascending tuple of the strong splits of a whole relation that have the dial 0."""
    good = good_splits(relation)
    return strong_among(count_dials(relation), good)


def partitions(relation):
    """The partitions of the bundles, and those of the knots, of a whole relation; both ascending."""
    good = good_splits(relation)
    many = count_dials(relation)
    frame = frame_of_splits(many, strong_among(many, good))
    bundles, knots = [], []
    for at, node in enumerate(frame):
        partition = tuple(sorted([behind_end(frame, at, end) for end in node]))
        if is_bundle(partition, good, many):
            bundles.append(partition)
        else:
            knots.append(partition)
    return (tuple(sorted(bundles)), tuple(sorted(knots)))


def is_bundle(partition, good, many):
    """Whether the node with a partition is a bundle, the good splits being told."""
    if len(partition) == 3:
        return True
    # Either all sets of two ends or more that leave two ends or more are good, or none of them is.
    both = partition[0] + partition[1]
    dials = tuple(sorted(both)) if 0 in both else other_dials(many, both)
    return dials in good


def bundles_of(relation):
    """The ascending tuple of pairs (partition, s), one for each bundle of the hanging of a whole relation."""
    return tuple((partition, class_of_bundle(relation, partition)) for partition in partitions(relation)[0])


def class_of_bundle(relation, partition):
    """The s of the bundle with a partition."""
    _, cube = cube_within(relation, tuple(dials[0] for dials in partition[:3]))
    return class_of_cube(cube)


def knots_of(relation):
    """The ascending tuple of the partitions of the knots of the hanging of a whole relation."""
    return partitions(relation)[1]


def many_shapes(relation):
    """How many tidy shapes fit a whole relation."""
    bundles, knots = partitions(relation)
    if knots:
        return 0
    many = 1
    for partition in bundles:
        for factor in range(1, 2 * len(partition) - 4, 2):
            many *= factor
    return many
