"""Slow and plain answers about grids, straight from the definitions of DOC.md."""

import itertools
import math
from tests import naive

ORDERS = [orders for size in range(4) for orders in itertools.product(range(2, 9), repeat=size)
          if math.prod(orders) <= 8 and all(high % low == 0 for low, high in zip(orders, orders[1:]))]


def is_line(thing, many):
    return naive.is_ints(thing, many) and set(thing) == set(range(many))


def is_grid(thing):
    if type(thing) is not tuple or not 1 <= len(thing) <= 8 or not all(is_line(row, len(thing)) for row in thing):
        return False
    return all(is_line(tuple(row[y] for row in thing), len(thing)) for y in range(len(thing)))


def figures(grid):
    """All figures of a grid, or of a partial grid, ascending."""
    numbers = range(len(grid))
    for x1, x2, x3 in itertools.product(numbers, repeat=3):
        for y1, y2, y3 in itertools.product(numbers, repeat=3):
            one, other = grid[x2][y1], grid[x3][y1]
            if one is not None and other is not None and grid[x1][y2] == one and grid[x1][y3] == other:
                yield (x1, x2, x3, y1, y2, y3)


def is_open(grid, figure):
    _, x2, x3, _, y2, y3 = figure
    return grid[x2][y3] != grid[x3][y2]


def first_open(grid):
    return next((figure for figure in figures(grid) if is_open(grid, figure)), None)


def members(orders):
    return list(itertools.product(*(range(order) for order in orders)))


def plus(orders, one, other):
    return tuple((a + b) % order for order, a, b in zip(orders, one, other))


def standard_grid(orders):
    all_members = members(orders)
    return tuple(tuple(all_members.index(plus(orders, one, other)) for other in all_members) for one in all_members)


def own_order(add, zero, one):
    """How often a member must be added to zero to come back to it."""
    many, rest = 1, add(zero, one)
    while rest != zero:
        many, rest = many + 1, add(rest, one)
    return many


def orders_of(grid):
    """The orders of a closed grid: those of the one group whose members have the same own orders."""
    def add(one, other):
        return grid[[row[0] for row in grid].index(one)][grid[0].index(other)]

    found = sorted(own_order(add, grid[0][0], one) for one in range(len(grid)))
    fit = []
    for orders in ORDERS:
        zero = (0,) * len(orders)
        told = sorted(own_order(lambda one, other: plus(orders, one, other), zero, one) for one in members(orders))
        if told == found:
            fit.append(orders)
    assert len(fit) == 1
    return fit[0]


def automorphisms(orders):
    """How many ways there are to exchange the members such that sums are led to sums."""
    all_members = members(orders)
    units = [tuple(1 if at == k else 0 for k in range(len(orders))) for at in range(len(orders))]
    many = 0
    for images in itertools.product(all_members, repeat=len(units)):
        led = []
        for member in all_members:
            total = (0,) * len(orders)
            for times, image in zip(member, images):
                for _ in range(times):
                    total = plus(orders, total, image)
            led.append(total)
        where = dict(zip(all_members, led))
        many += len(set(led)) == len(led) and all(
            where[plus(orders, one, other)] == plus(orders, where[one], where[other])
            for one, other in itertools.product(all_members, repeat=2))
    return many


def grid_holds(grid, thing):
    if type(thing) is not tuple or len(thing) < 2 or type(thing[0]) is not str:
        return False
    n = len(grid)
    if thing[0] == "open" and len(thing) == 2:
        figure = thing[1]
        return naive.is_ints(figure, 6) and figure in set(figures(grid)) and is_open(grid, figure)
    if thing[0] != "group" or len(thing) != 5:
        return False
    _, orders, f, g, h = thing
    if type(orders) is not tuple or not naive.is_ints(orders, len(orders)) or orders not in ORDERS:
        return False
    all_members = members(orders)
    for names in (f, g, h):
        if type(names) is not tuple or len(names) != n or len(all_members) != n:
            return False
        if not all(naive.is_ints(member, len(orders)) for member in names) or set(names) != set(all_members):
            return False
    return all(plus(orders, f[x], g[y]) == h[grid[x][y]] for x in range(n) for y in range(n))


def renamed_grid(grid, rows, columns, entries):
    """The grid to which three lines rename a grid."""
    n = len(grid)
    fresh = [[None] * n for _ in range(n)]
    for x, y in itertools.product(range(n), repeat=2):
        fresh[rows[x]][columns[y]] = entries[grid[x][y]]
    return tuple(map(tuple, fresh))


def renamed_holds(one, other, thing):
    if type(thing) is not tuple or len(thing) < 2 or type(thing[0]) is not str:
        return False
    if thing[0] == "renamed" and len(thing) == 4:
        return all(is_line(line, len(one)) for line in thing[1:]) and renamed_grid(one, *thing[1:]) == other
    told = (orders_of(one), orders_of(other))
    return thing[0] == "apart" and told[0] != told[1] and repr(thing[1:]) == repr(told)


def is_partial(thing):
    if type(thing) is not tuple or not 1 <= len(thing) <= 8:
        return False
    n = len(thing)
    for row in thing:
        if type(row) is not tuple or len(row) != n:
            return False
        if not all(entry is None or naive.is_int(entry) and 0 <= entry < n for entry in row):
            return False
    for line in list(thing) + [tuple(row[y] for row in thing) for y in range(n)]:
        standing = [entry for entry in line if entry is not None]
        if len(set(standing)) != len(standing):
            return False
    return True


def deed(grid, figure):
    """What a figure does: "clash", the grid that it has filled, or None."""
    _, x2, x3, _, y2, y3 = figure
    cells = [(x2, y3), (x3, y2)]
    empty = [cell for cell in cells if grid[cell[0]][cell[1]] is None]
    entries = [grid[x][y] for x, y in cells if grid[x][y] is not None]
    if len(empty) == 0:
        return "clash" if entries[0] != entries[1] else None
    if len(empty) == 2:
        return None
    x, y = empty[0]
    if entries[0] in grid[x] or entries[0] in [row[y] for row in grid]:
        return "clash"
    return tuple(tuple(entries[0] if (a, b) == (x, y) else entry for b, entry in enumerate(row))
                 for a, row in enumerate(grid))


def walk(grid, chance):
    """The filling, by figures taken in an order of its own; None if one clashes."""
    while True:
        found = [deed(grid, figure) for figure in figures(grid)]
        found = [one for one in found if one is not None]
        if not found:
            return grid
        one = chance.choice(found)
        if one == "clash":
            return None
        grid = one


def filling_holds(grid, thing):
    if type(thing) is not tuple or len(thing) != 2 or type(thing[0]) is not str or type(thing[1]) is not tuple:
        return False
    kind, told = thing
    if kind not in ("filled", "clash"):
        return False
    for at, figure in enumerate(told):
        if not naive.is_ints(figure, 6) or figure not in set(figures(grid)):
            return False
        done = deed(grid, figure)
        if done == "clash":
            return kind == "clash" and at == len(told) - 1
        if done is None:
            return False
        grid = done
    return kind == "filled" and all(deed(grid, figure) is None for figure in figures(grid))


def random_grid(chance, n):
    """A grid, row by row; from the start if no row fits any more."""
    while True:
        rows = []
        while len(rows) < n:
            row = next((row for row in (chance.sample(range(n), n) for _ in range(400))
                        if all(row[y] != other[y] for other in rows for y in range(n))), None)
            if row is None:
                break
            rows.append(tuple(row))
        if len(rows) == n:
            return tuple(rows)


def table_of_permutations(degree, even):
    """The table of the permutations of so many things, all or the even ones: a group that need not be commutative."""
    def is_even(one):
        return sum(one[i] > one[j] for i, j in itertools.combinations(range(len(one)), 2)) % 2 == 0

    group = [one for one in itertools.permutations(range(degree)) if not even or is_even(one)]
    return tuple(tuple(group.index(tuple(one[k] for k in other)) for other in group) for one in group)
