"""Grids of few values: their figures, and the commutative groups whose tables they are up to names."""

from rulertrees.errors import BadGrid, BadOrders
from rulertrees.kinds import is_integers, is_tuple_of, is_word, same_value

MOST_VALUES = 8
# The orders of all groups of at most eight members.
ALL_ORDERS = ((), (2,), (3,), (4,), (2, 2), (5,), (6,), (7,), (8,), (2, 4), (2, 2, 2))


def is_line(thing, many):
    """Whether any value is a tuple that has each integer from 0 up and below so many once."""
    return is_integers(thing, many) and sorted(thing) == list(range(many))


def is_grid(thing):
    """Whether any value is a grid."""
    if not isinstance(thing, tuple) or not 0 < len(thing) <= MOST_VALUES:
        return False
    many = len(thing)
    return all(is_line(row, many) for row in thing) and all(is_line(column, many) for column in zip(*thing))


def check_grid(thing):
    """Raises BadGrid with any value that is no grid."""
    if not is_grid(thing):
        raise BadGrid(thing)


def first_open(grid):
    """The first open figure of a grid, None if the grid is closed."""
    check_grid(grid)
    numbers = range(len(grid))
    for x1 in numbers:
        for x2 in numbers:
            for x3 in numbers:
                for y1 in numbers:
                    # The two equations of a figure tell its other columns.
                    y2 = grid[x1].index(grid[x2][y1])
                    y3 = grid[x1].index(grid[x3][y1])
                    if grid[x2][y3] != grid[x3][y2]:
                        return (x1, x2, x3, y1, y2, y3)
    return None


def is_closed(grid):
    """Whether all figures of a grid are closed."""
    return first_open(grid) is None


def are_orders(thing):
    """Whether any value is the orders of a group of at most eight members."""
    return any(same_value(thing, orders) for orders in ALL_ORDERS)


def members_of(orders):
    """The members of the group with some orders, ascending."""
    found = [()]
    for order in orders:
        found = [member + (number,) for member in found for number in range(order)]
    return found


def member_sum(orders, one, other):
    """The sum of two members of the group with some orders."""
    return tuple((first + second) % order for order, first, second in zip(orders, one, other))


def standard_grid(orders):
    """The grid of the sums of the members of the group with some orders, by their numbers."""
    if not are_orders(orders):
        raise BadOrders(orders)
    members = members_of(orders)
    return tuple(
        tuple(members.index(member_sum(orders, one, other)) for other in members) for one in members
    )


def sums_of(grid):
    """The sums of the entries of a closed grid, as a table.

    In the first column each entry stands for its row, in the first row for its column; so the entry of both is zero.
    """
    entries = range(len(grid))
    firsts = [row[0] for row in grid]
    rows = [grid[firsts.index(entry)] for entry in entries]
    return [[row[grid[0].index(entry)] for entry in entries] for row in rows]


def extensions(sums, zero, known, order):
    """For each entry that comes to zero if it is added so often as the order: the known entries plus its multiples.

    Those are left out in which an entry stands twice.
    """
    found = []
    for entry in range(len(sums)):
        multiples = [zero]
        for _ in range(order - 1):
            multiples.append(sums[multiples[-1]][entry])
        longer = tuple(sums[one][other] for one in known for other in multiples)
        if sums[multiples[-1]][entry] == zero and len(set(longer)) == len(longer):
            found.append(longer)
    return found


def namings(grid, orders):
    """All ways to give the members of the group with some orders, ascending, entries of a closed grid as names.

    Each way leads sums of members to sums of entries, so there are as many ways as automorphisms, or none.
    """
    sums, zero = sums_of(grid), grid[0][0]
    found = [(zero,)]
    for order in orders:
        found = [longer for known in found for longer in extensions(sums, zero, known, order)]
    return [naming for naming in found if len(naming) == len(grid)]


def group_of(grid):
    """The orders of a closed grid, and all ways to give the members of the group entries as names."""
    told = [(orders, namings(grid, orders)) for orders in ALL_ORDERS]
    return [one for one in told if one[1]][0]


def named_grid(grid):
    """The orders of a closed grid, and members for its rows, columns and entries whose sums it tells."""
    orders, ways = group_of(grid)
    members = members_of(orders)
    entries = tuple(members[ways[0].index(entry)] for entry in range(len(grid)))
    return (orders, tuple(entries[row[0]] for row in grid), tuple(entries[entry] for entry in grid[0]), entries)


def judge_grid(grid):
    """A certificate that a grid is that of a commutative group up to names, or that a figure of it is open."""
    figure = first_open(grid)
    if figure is not None:
        return ("open", figure)
    return ("group",) + named_grid(grid)


def orders_of(grid):
    """The orders of a grid, None if it is not closed."""
    return group_of(grid)[0] if is_closed(grid) else None


def many_certificates(grid):
    """How many certificates tell that a grid is that of a commutative group."""
    return len(grid) * len(grid) * len(group_of(grid)[1]) if is_closed(grid) else 0


def are_members(thing, members):
    """Whether any value is a tuple that has each of some members once."""
    if not is_tuple_of(thing, len(members)) or not all(is_integers(member, len(members[0])) for member in thing):
        return False
    return sorted(thing) == members


def group_holds(grid, orders, rows, columns, entries):
    """Whether any values are orders and members for rows, columns and entries whose sums a grid tells."""
    if not are_orders(orders):
        return False
    members = members_of(orders)
    if len(members) != len(grid) or not all(are_members(names, members) for names in (rows, columns, entries)):
        return False
    return all(
        member_sum(orders, rows[x], columns[y]) == entries[entry]
        for x, line in enumerate(grid) for y, entry in enumerate(line)
    )


def is_open_figure(grid, thing):
    """Whether any value is an open figure of a grid."""
    if not is_integers(thing, 6) or not all(0 <= number < len(grid) for number in thing):
        return False
    x1, x2, x3, y1, y2, y3 = thing
    if grid[x1][y2] != grid[x2][y1] or grid[x1][y3] != grid[x3][y1]:
        return False
    return grid[x2][y3] != grid[x3][y2]


def grid_holds(grid, thing):
    """Whether any value is a certificate for a grid."""
    check_grid(grid)
    if is_tuple_of(thing, 5) and is_word(thing[0], "group"):
        return group_holds(grid, thing[1], thing[2], thing[3], thing[4])
    return is_tuple_of(thing, 2) and is_word(thing[0], "open") and is_open_figure(grid, thing[1])
