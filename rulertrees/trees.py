"""Trees of cubes: their relations, the shapes that fit a relation, and which trees are alike."""

from itertools import combinations
from rulertrees.cubes import is_cube
from rulertrees.errors import BadShape, BadTree, Loose, OtherShapes
from rulertrees.frames import inner_dials, outer_of, reached, split_at, splits_at
from rulertrees.integers import shortened
from rulertrees.items import count_dials
from rulertrees.joints import all_joined, hung_on, relation_of_nodes
from rulertrees.kinds import is_tuple_of, is_word, same_value
from rulertrees.places import STAY, are_changes
from rulertrees.relations import changed, check_three_dials
from rulertrees.shapes import is_shape, shapes_among
from rulertrees.splits import judge_split, rank_of, split_holds, splits_of


def is_tree(thing):
    """Whether any value is a tree."""
    if not is_tuple_of(thing, 2) or not is_shape(thing[0]) or not is_tuple_of(thing[1], len(thing[0])):
        return False
    return all(is_cube(cube) for cube in thing[1])


def check_tree(thing):
    """Raises BadTree with any value that is no tree."""
    if not is_tree(thing):
        raise BadTree(thing)


def relation_of(tree):
    """The relation of a tree, None if it is open."""
    check_tree(tree)
    shape, cubes = tree
    return relation_of_nodes(shape, cubes)


def check_relation_and_shape(relation, shape):
    """Raises BadRelation or BadShape unless there is a relation and a shape with as many outer dials."""
    check_three_dials(relation)
    if not is_shape(shape) or outer_of(shape) != count_dials(relation):
        raise BadShape(shape)


def judge_shape(relation, shape):
    """A certificate that a shape fits a relation, or that it does not."""
    check_relation_and_shape(relation, shape)
    for dial in inner_dials(shape):
        found = judge_split(relation, split_at(shape, dial))
        if found[0] == "more":
            return ("inner", dial, found[1], found[2])
    return ("cubes", hung_on(relation, shape))


def shape_holds(relation, shape, thing):
    """Whether any value is a certificate for a relation and a shape."""
    check_relation_and_shape(relation, shape)
    if is_tuple_of(thing, 2) and is_word(thing[0], "cubes"):
        tree = (shape, thing[1])
        return is_tree(tree) and relation_of(tree) == relation
    if not is_tuple_of(thing, 4) or not is_word(thing[0], "inner"):
        return False
    if not any(same_value(thing[1], dial) for dial in inner_dials(shape)):
        return False
    return split_holds(relation, split_at(shape, thing[1]), ("more", thing[2], thing[3]))


def fitting(relation):
    """The ascending tuple of all tidy shapes that fit a relation."""
    check_three_dials(relation)
    many = count_dials(relation)
    return shapes_among(many, [dials for dials in splits_of(many, 2) if rank_of(relation, dials) <= 2])


def check_two_trees(one, other):
    """Raises BadTree with the first one that is no tree, or is open; OtherShapes if the shapes are unlike."""
    for tree in (one, other):
        if relation_of(tree) is None:
            raise BadTree(tree)
    if one[0] != other[0]:
        raise OtherShapes()


def judge_trees(one, other):
    """A certificate that two trees of one shape are alike, or that their relations are not equal."""
    check_two_trees(one, other)
    relation, other_relation = relation_of(one), relation_of(other)
    if relation != other_relation:
        return ("relations", relation, other_relation)
    if any(rank_of(relation, dials) != 2 for dials in splits_at(one[0])):
        raise Loose()
    return ("alike", tuple(change_at(one, other, dial) for dial in inner_dials(one[0])))


def branch(tree, dial):
    """The items, ascending, of what the nodes on one side of an inner dial come to, the dial being the last one."""
    shape, cubes = tree
    start = [at for at, node in enumerate(shape) if dial in node][0]
    fresh = outer_of(shape) + len(shape)
    return all_joined([
        (tuple(fresh if end == dial else end for end in shape[at]), cubes[at]) for at in reached(shape, start, dial)
    ])


def change_at(one, other, dial):
    """The change of an inner dial by which the branch of the second tree becomes that of the first one."""
    first, second = branch(one, dial), branch(other, dial)
    rows = list(zip(first[::2], first[1::2], second[::2], second[1::2]))
    # Two rows suffice, since the rank of the split is two: they are solved by Cramer's rule.
    (a, b, c, d), (e, f, g, h) = [
        (row, later) for row, later in combinations(rows, 2) if row[2] * later[3] != row[3] * later[2]
    ][0]
    return shortened((a * h - e * d, b * h - f * d, c * e - g * a, c * f - g * b))


def cubes_changed(tree, changes):
    """The cubes of a tree, each changed by the changes of its inner dials."""
    shape, cubes = tree
    by_dial = dict(zip(inner_dials(shape), changes))
    return tuple(
        changed(cube, tuple(by_dial.get(end, STAY) for end in node)) for node, cube in zip(shape, cubes)
    )


def trees_hold(one, other, thing):
    """Whether any value is a certificate for two trees of one shape."""
    check_two_trees(one, other)
    if is_tuple_of(thing, 2) and is_word(thing[0], "alike"):
        return are_changes(thing[1], len(inner_dials(one[0]))) and cubes_changed(other, thing[1]) == one[1]
    if is_tuple_of(thing, 3) and is_word(thing[0], "relations"):
        relations = (relation_of(one), relation_of(other))
        return relations[0] != relations[1] and same_value(thing[1:], relations)
    return False
