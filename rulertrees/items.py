"""Tuples of 2 ** n integers, one for each row of bits: set, changed, in another order, as tables.

Nothing here is shortened or checked, so the sums of degree one in each dial can be built further.
"""


def count_dials(items):
    """The n of a tuple of 2 ** n items."""
    return len(items).bit_length() - 1


def bit_span(items, dial):
    """By how much the index grows if the bit of a dial becomes 1."""
    return len(items) >> (dial + 1)


def with_place(items, dial, place):
    """The items of the other dials when a dial is set at a place."""
    a, b = place
    span = bit_span(items, dial)
    return tuple(a * items[low] + b * items[low + span] for low in range(len(items)) if low & span == 0)


def with_change(items, dial, change):
    """The items as an expression in the new integers of a dial, the change leading to the old ones."""
    p, q, r, s = change
    span = bit_span(items, dial)
    fresh = list(items)
    for low in range(len(items)):
        if low & span == 0:
            fresh[low] = p * items[low] + r * items[low + span]
            fresh[low + span] = q * items[low] + s * items[low + span]
    return tuple(fresh)


def with_changes(items, changes):
    """The items after a change for each dial."""
    for dial, change in enumerate(changes):
        items = with_change(items, dial, change)
    return items


def index_before(index, order):
    """The index, ahead of a new order, of the item that has this index in the new order."""
    last = len(order) - 1
    before = 0
    for position, dial in enumerate(order):
        bit = index >> (last - position) & 1
        before += bit << (last - dial)
    return before


def in_order(items, order):
    """The items when the dial at position k of the order becomes the dial k."""
    return tuple(items[index_before(index, order)] for index in range(len(items)))


def other_dials(many, dials):
    """The dials below so many that are not among the given ones, ascending."""
    return tuple(dial for dial in range(many) if dial not in dials)


def table_rows(items, dials):
    """The table with a row for each row of bits of the dials and a column for each one of the others."""
    others = other_dials(count_dials(items), dials)
    flat = in_order(items, dials + others)
    width = 1 << len(others)
    return tuple(flat[start:start + width] for start in range(0, len(flat), width))
