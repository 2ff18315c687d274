"""Partial grids, and how figures fill them."""

from rulertrees.errors import BadGrid
from rulertrees.grids import MOST_VALUES
from rulertrees.kinds import is_integer, is_integers, is_tuple_of, is_word

# What a certificate tells of a partial grid.
FILLED = "filled"
CLASH = "clash"


def is_partial_line(thing, many):
    """Whether any value is a tuple of so many items: None, or integers from 0 up and below so many, all unlike."""
    if not is_tuple_of(thing, many):
        return False
    standing = [entry for entry in thing if entry is not None]
    if not all(is_integer(entry) and 0 <= entry < many for entry in standing):
        return False
    return len(set(standing)) == len(standing)


def is_partial(thing):
    """Whether any value is a partial grid."""
    if not isinstance(thing, tuple) or not 0 < len(thing) <= MOST_VALUES:
        return False
    many = len(thing)
    if not all(is_partial_line(row, many) for row in thing):
        return False
    return all(is_partial_line(column, many) for column in zip(*thing))


def check_partial(thing):
    """Raises BadGrid with any value that is no partial grid."""
    if not is_partial(thing):
        raise BadGrid(thing)


def is_figure(grid, thing):
    """Whether any value is a figure of a partial grid."""
    if not is_integers(thing, 6) or not all(0 <= number < len(grid) for number in thing):
        return False
    x1, x2, x3, y1, y2, y3 = thing
    if grid[x2][y1] is None or grid[x3][y1] is None:
        return False
    return grid[x1][y2] == grid[x2][y1] and grid[x1][y3] == grid[x3][y1]


def cell_to_fill(grid, figure):
    """The row, the column and the entry that a figure tells of the one of its last two cells that has none.

    None if both have an entry, or none has.
    """
    _, x2, x3, _, y2, y3 = figure
    one, other = grid[x2][y3], grid[x3][y2]
    if (one is None) == (other is None):
        return None
    return (x2, y3, other) if one is None else (x3, y2, one)


def fills(grid, figure):
    """Whether a figure fills a partial grid."""
    cell = cell_to_fill(grid, figure)
    return cell is not None and not stands_beside(grid, cell)


def stands_beside(grid, cell):
    """Whether the entry of a cell already stands in its row or its column."""
    x, y, entry = cell
    return entry in grid[x] or any(row[y] == entry for row in grid)


def clashes(grid, figure):
    """Whether a figure of a partial grid clashes."""
    cell = cell_to_fill(grid, figure)
    if cell is not None:
        return stands_beside(grid, cell)
    _, x2, x3, _, y2, y3 = figure
    return grid[x2][y3] != grid[x3][y2]


def filled_by(grid, figure):
    """What a figure that fills a partial grid makes of it."""
    x, y, entry = cell_to_fill(grid, figure)
    row = grid[x][:y] + (entry,) + grid[x][y + 1:]
    return grid[:x] + (row,) + grid[x + 1:]


def next_figure(grid):
    """The first figure of a partial grid that fills it or clashes, None if there is none."""
    numbers = range(len(grid))
    for x1 in numbers:
        for x2 in numbers:
            for x3 in numbers:
                for y1 in numbers:
                    figure = figure_with(grid, x1, x2, x3, y1)
                    if figure is not None and (fills(grid, figure) or clashes(grid, figure)):
                        return figure
    return None


def figure_with(grid, x1, x2, x3, y1):
    """The figure of a partial grid with these rows and this column, None if there is none."""
    one, other = grid[x2][y1], grid[x3][y1]
    if one is None or other is None or one not in grid[x1] or other not in grid[x1]:
        return None
    return (x1, x2, x3, y1, grid[x1].index(one), grid[x1].index(other))


def filled_out(grid):
    """The figures that fill a partial grid, as far as they do, and what they leave; the last one may clash."""
    check_partial(grid)
    figures = []
    figure = next_figure(grid)
    while figure is not None:
        figures.append(figure)
        if clashes(grid, figure):
            return (CLASH, tuple(figures), grid)
        grid = filled_by(grid, figure)
        figure = next_figure(grid)
    return (FILLED, tuple(figures), grid)


def judge_filling(grid):
    """A certificate that tells how a partial grid is filled, or that a figure clashes."""
    kind, figures, _ = filled_out(grid)
    return (kind, figures)


def filling(grid):
    """The filling of a partial grid, None if there is none."""
    kind, _, rest = filled_out(grid)
    return rest if kind == FILLED else None


def left_by(grid, figures):
    """What is left of a partial grid when figures fill it in their order; None if one of any values does not."""
    for figure in figures:
        if not is_figure(grid, figure) or not fills(grid, figure):
            return None
        grid = filled_by(grid, figure)
    return grid


def filling_holds(grid, thing):
    """Whether any value is a certificate for a partial grid."""
    check_partial(grid)
    if not is_tuple_of(thing, 2) or not isinstance(thing[1], tuple):
        return False
    kind, figures = thing
    if is_word(kind, FILLED):
        rest = left_by(grid, figures)
        return rest is not None and next_figure(rest) is None
    if not is_word(kind, CLASH) or not figures:
        return False
    rest = left_by(grid, figures[:-1])
    return rest is not None and is_figure(rest, figures[-1]) and clashes(rest, figures[-1])
