"""Relations that inner dials tie to one relation, and relations taken apart along a frame.

A tied thing is a pair (ends, items): the dials, by their numbers in a frame, and the items of a relation of them.
"""

from rulertrees.frames import inner_dials, share_end
from rulertrees.integers import shortened
from rulertrees.items import count_dials, in_order, table_rows, with_place
from rulertrees.splits import two_products
from rulertrees.tables import pivots


def short_or_zero(items):
    """The items shortened, or as they are if all of them are 0."""
    return shortened(items) if any(items) else tuple(items)


def ascending(tied):
    """The items in the ascending order of the ends."""
    ends, items = tied
    return short_or_zero(in_order(items, tuple(ends.index(end) for end in sorted(ends))))


def halves_at(tied, dial):
    """The other ends, and the items that belong to the two integers of the place of a dial."""
    ends, items = tied
    at = ends.index(dial)
    return (ends[:at] + ends[at + 1:], with_place(items, at, (1, 0)), with_place(items, at, (0, 1)))


def joined(one, other, dial):
    """What two tied things become when a dial that both have is taken out."""
    ends, low, high = halves_at(one, dial)
    other_ends, other_low, other_high = halves_at(other, dial)
    items = [p * t - q * s for p, q in zip(low, high) for s, t in zip(other_low, other_high)]
    return (ends + other_ends, short_or_zero(items))


def all_joined(tied):
    """The items, ascending, of what is left of tied things when each dial that two of them have is taken out."""
    rest = list(tied)
    while len(rest) > 1:
        one = rest.pop(0)
        at = [k for k, other in enumerate(rest) if share_end(one[0], other[0], None)][0]
        other = rest.pop(at)
        dial = [end for end in one[0] if end in other[0]][0]
        rest.insert(0, joined(one, other, dial))
    return ascending(rest[0])


def relation_of_nodes(frame, relations):
    """The relation of a frame with a relation for each node, None if all items come to 0."""
    items = all_joined(list(zip(frame, relations)))
    return items if any(items) else None


def parted(tied, some, dial):
    """Two tied things whose join at a new dial is a multiple of one, the first one with some of its ends.

    The rank of the split of these ends is two at most.
    """
    ends, items = tied
    rows = table_rows(items, tuple(ends.index(end) for end in some))
    _, (plus, minus), (first, second) = two_products(rows, pivots(rows))
    one = [item for pair in zip(plus, minus) for item in pair]
    other = [item for pair in zip(second, first) for item in pair]
    others = tuple(end for end in ends if end not in some)
    return ((some + (dial,), shortened(one)), (others + (dial,), shortened(other)))


def only_tie(frame, left, at):
    """The one inner dial that ties a node to the other ones of those that are left; None if there are more."""
    ties = [
        dial for dial in inner_dials(frame)
        if dial in frame[at] and any(dial in frame[other] for other in left if other != at)
    ]
    return ties[0] if len(ties) == 1 else None


def hung_on(relation, frame):
    """Relations for the nodes of a frame whose relation is a relation; no inner split has a rank above two."""
    tied = (tuple(range(count_dials(relation))), relation)
    found = [None] * len(frame)
    left = list(range(len(frame)))
    while len(left) > 1:
        at = [node for node in left if only_tie(frame, left, node) is not None][0]
        dial = only_tie(frame, left, at)
        # All other ends of this node are at hand: they are outer dials, or nodes behind them are done.
        node, tied = parted(tied, tuple(end for end in frame[at] if end != dial), dial)
        found[at] = ascending(node)
        left.remove(at)
    found[left[0]] = ascending(tied)
    return tuple(found)
