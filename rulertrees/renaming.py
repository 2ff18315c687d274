"""Closed grids that are renamed from one another."""

from rulertrees.errors import BadGrid, OtherSizes
from rulertrees.grids import is_closed, is_line, named_grid, orders_of
from rulertrees.kinds import is_tuple_of, is_word, same_value


def check_two_grids(one, other):
    """Raises BadGrid with the first one that is no closed grid, OtherSizes if the sizes are unlike."""
    for grid in (one, other):
        if not is_closed(grid):
            raise BadGrid(grid)
    if len(one) != len(other):
        raise OtherSizes()


def judge_renamed(one, other):
    """A certificate that two closed grids of one size are renamed from one another, or that they are not."""
    check_two_grids(one, other)
    orders, *names = named_grid(one)
    other_orders, *other_names = named_grid(other)
    if orders != other_orders:
        return ("apart", orders, other_orders)
    # What has the same member in both grids belongs together.
    return ("renamed",) + tuple(
        tuple(there.index(member) for member in here) for here, there in zip(names, other_names)
    )


def renamed_holds(one, other, thing):
    """Whether any value is a certificate for two closed grids of one size."""
    check_two_grids(one, other)
    if is_tuple_of(thing, 4) and is_word(thing[0], "renamed"):
        return all(is_line(line, len(one)) for line in thing[1:]) and are_renamings(one, other, thing)
    if is_tuple_of(thing, 3) and is_word(thing[0], "apart"):
        both = (orders_of(one), orders_of(other))
        return both[0] != both[1] and same_value(thing[1:], both)
    return False


def are_renamings(one, other, thing):
    """Whether the lines of a certificate lead each entry of a grid to the entry where it belongs in the other one."""
    _, rows, columns, entries = thing
    return all(
        other[rows[x]][columns[y]] == entries[entry] for x, row in enumerate(one) for y, entry in enumerate(row)
    )
