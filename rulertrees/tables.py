"""Tables of integers: rows and columns at which they have a determinant that is not 0."""

from rulertrees.integers import shortened


def first_column(row):
    """The first column at which a row, not all of it 0, is not 0."""
    return [column for column, entry in enumerate(row) if entry != 0][0]


def cleared(row, lead, column):
    """A multiple of a row less a multiple of another one that is not 0 at a column, such that it is 0 there."""
    return tuple(lead[column] * entry - row[column] * above for entry, above in zip(row, lead))


def pivots(rows):
    """Pairs of a row and a column, one for each unit of the rank; at all of them the determinant is not 0."""
    leads = []
    found = []
    for at, row in enumerate(rows):
        for lead, column in leads:
            row = cleared(row, lead, column)
        if any(row):
            column = first_column(row)
            leads.append((shortened(row), column))
            found.append((at, column))
    return tuple(found)


def rank(rows):
    """The rank of a table over the fractions."""
    return len(pivots(rows))
