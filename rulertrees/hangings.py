"""Hangings: the one way in which a whole relation hangs together, and how trees are hung anew."""

from rulertrees.cubes import form_of
from rulertrees.errors import BadEnd, BadHanging, BadShape
from rulertrees.families import strong_splits
from rulertrees.frames import frame_of_splits, is_frame, outer_of, splits_at, tidied
from rulertrees.integers import shortened
from rulertrees.items import count_dials
from rulertrees.joints import hung_on, relation_of_nodes
from rulertrees.kinds import is_integer, is_tuple_of, is_word
from rulertrees.pieces import check_whole, falls_apart, is_split, is_whole, pieces
from rulertrees.relations import check_dial, check_places, check_three_dials, holds, is_relation
from rulertrees.settings import cube_within
from rulertrees.shapes import check_inner_dial, check_shape, is_shape
from rulertrees.standards import has_low_ranks
from rulertrees.trees import fitting


def is_hanging(thing):
    """Whether any value is a hanging."""
    if not is_tuple_of(thing, 2) or not is_frame(thing[0]) or tidied(thing[0]) != thing[0]:
        return False
    frame, relations = thing
    if not is_tuple_of(relations, len(frame)) or not all(is_relation(relation) for relation in relations):
        return False
    return all(count_dials(relation) == len(node) for node, relation in zip(frame, relations))


def relation_of_hanging(hanging):
    """The relation of a hanging, None if all items come to 0."""
    if not is_hanging(hanging):
        raise BadHanging(hanging)
    frame, relations = hanging
    return relation_of_nodes(frame, relations)


def hanging_reads(hanging, places):
    """Whether a hanging reads places of its outer dials."""
    relation = relation_of_hanging(hanging)
    check_places(places, outer_of(hanging[0]))
    # All items come to 0 just if, at any places, some node leaves an inner dial free. Then there are inner places.
    return relation is None or holds(relation, places)


def bundle_form(relation, dial):
    """The form of a dial of a bundle, None if the relation is not alike to a standard one."""
    check_three_dials(relation)
    many = count_dials(relation)
    check_dial(dial, many)
    if not is_whole(relation) or not has_low_ranks(relation):
        return None
    others = [other for other in range(many) if other != dial]
    dials = tuple(sorted([dial] + others[:2]))
    _, cube = cube_within(relation, dials)
    return shortened(form_of(cube, dials.index(dial)))


def the_hanging(relation):
    """The hanging of a whole relation."""
    frame = frame_of_splits(count_dials(relation), strong_splits(relation))
    return (frame, hung_on(relation, frame))


def judge_hanging(relation):
    """A certificate that tells the hanging of a relation, or where it falls apart."""
    check_three_dials(relation)
    found = pieces(relation)
    if len(found) > 1:
        return ("falls", found[0][0])
    return ("hanging", the_hanging(relation))


def hangings_of(relation):
    """The tuple of pairs (dials, hanging), one for each piece with three dials or more."""
    return tuple((dials, the_hanging(piece)) for dials, piece in pieces(relation) if len(dials) > 2)


def hanging_holds(relation, thing):
    """Whether any value is a certificate for a relation."""
    check_three_dials(relation)
    if not is_tuple_of(thing, 2):
        return False
    kind, told = thing
    if is_word(kind, "falls"):
        return is_split(told, count_dials(relation)) and falls_apart(relation, told)
    if not is_word(kind, "hanging") or not is_hanging(told) or relation_of_hanging(told) != relation:
        return False
    # The relations of the nodes are told by the inner splits, up to changes of inner dials, if these are strong.
    # So they are bundles and knots as they must be.
    return is_whole(relation) and splits_at(told[0]) == strong_splits(relation)


def check_end(end, node, dial):
    """Raises BadEnd with any value that is no end of a node other than a dial."""
    if not is_integer(end) or end not in node or end == dial:
        raise BadEnd(end)


def hung_anew(shape, dial, one, other):
    """The tidy shape that comes of exchanging two ends at an inner dial of a shape."""
    check_shape(shape)
    check_inner_dial(shape, dial)
    first, second = [node for node in shape if dial in node]
    check_end(one, first, dial)
    check_end(other, second, dial)
    exchanged = {one: other, other: one}
    return tidied([
        tuple(exchanged.get(end, end) for end in node) if dial in node else node for node in shape
    ])


def rehangings(relation, one, other):
    """Tidy shapes that fit a whole relation, from a first one to a last one, each next one by one exchange."""
    check_whole(relation)
    fit = fitting(relation)
    for shape in (one, other):
        if not is_shape(shape) or shape not in fit:
            raise BadShape(shape)
    splits = {shape: splits_at(shape) for shape in fit}
    # The way is sought from its end, so that it need not be turned.
    ways = {other: (other,)}
    found = [other]
    done = 0
    while one not in ways:
        here = found[done]
        for shape in fit:
            if shape not in ways and are_next(splits[shape], splits[here]):
                ways[shape] = (shape,) + ways[here]
                found.append(shape)
        done += 1
    return ways[one]


def are_next(splits, others):
    """Whether one exchange leads from a shape to another one: all of their inner splits but one are the same."""
    return len([split for split in splits if split not in others]) == 1
