"""Tables of integers: their ranks, what all rows lead to 0, and rows that are sums of multiples of others."""

from math import lcm
from rulertrees.integers import shortened


def first_column(row):
    """The first column at which a row, not all of it 0, is not 0."""
    return [column for column, entry in enumerate(row) if entry != 0][0]


def cleared(row, lead, column):
    """A multiple of a row less a multiple of another one that is not 0 at a column, such that it is 0 there."""
    return tuple(lead[column] * entry - row[column] * above for entry, above in zip(row, lead))


def pivots(rows):
    """Pairs of a row and a column, one for each unit of the rank; at all of them the determinant is not 0."""
    leads = []
    found = []
    for at, row in enumerate(rows):
        for lead, column in leads:
            row = cleared(row, lead, column)
        if any(row):
            column = first_column(row)
            leads.append((shortened(row), column))
            found.append((at, column))
    return tuple(found)


def rank(rows):
    """The rank of a table over the fractions."""
    return len(pivots(rows))


def reduced(rows):
    """Pairs of a row and a column: rows that span the same as the given ones, each alone not 0 at its column."""
    leads = []
    for row in rows:
        for lead, column in leads:
            row = cleared(row, lead, column)
        if any(row):
            column = first_column(row)
            row = shortened(row)
            leads = [(shortened(cleared(lead, row, column)), at) for lead, at in leads]
            leads.append((row, column))
    return leads


def null_space(rows, width):
    """Short tuples of so many integers that span, without one too many, all that the rows lead to 0."""
    leads = reduced(rows)
    common = 1
    for lead, column in leads:
        common = lcm(common, lead[column])
    taken = [column for _, column in leads]
    found = []
    for free in range(width):
        if free not in taken:
            numbers = [0] * width
            numbers[free] = common
            for lead, column in leads:
                numbers[column] = -lead[free] * common // lead[column]
            found.append(shortened(numbers))
    return found


def dot(one, other):
    """The sum of the products of the items of two tuples of one length."""
    return sum(first * second for first, second in zip(one, other))


def multipliers_of(rows, row):
    """An integer m above 0 and a multiplier for each row such that their sum is m times a row that they span."""
    many = len(rows)
    width = len(row)
    leads = []
    # Behind each row stands what it is made of; the row that is sought stands behind the others.
    for at, numbers in enumerate(rows + (row,)):
        rest = numbers + tuple(1 if at == k else 0 for k in range(many + 1))
        for lead, column in leads:
            rest = cleared(rest, lead, column)
        rest = shortened(rest)
        if any(rest[:width]):
            leads.append((rest, first_column(rest)))
    made = rest[width:]
    numbers = shortened((made[-1],) + made[:-1])
    return (numbers[0], tuple(-number for number in numbers[1:]))
