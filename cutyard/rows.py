"""Rows: pairs (entries, bound) that ask a sum to be at least the bound."""

from cutyard.wholes import common, up


def unit(n, place):
    """The entries with 1 at one place and 0 at the others."""
    return tuple([1 if other == place else 0 for other in range(n)])


def width(rows):
    """How many entries the rows have; of no rows there are no unknowns."""
    if len(rows) == 0:
        return 0
    return len(rows[0][0])


def left(entries, spot):
    """The sum of entry times number over all unknowns."""
    return sum([entry * number for entry, number in zip(entries, spot)])


def meets(row, spot):
    """Whether the spot meets the row."""
    return left(row[0], spot) >= row[1]


def passes(row, point):
    """Whether the point (tops, bottom) meets the row."""
    return left(row[0], point[0]) >= row[1] * point[1]


def turned(row):
    """The row with all signs turned."""
    return (tuple([-entry for entry in row[0]]), -row[1])


def evened(row):
    """The row divided by what its entries have in common, the bound rounded up."""
    divisor = common(row[0])
    if divisor == 0:
        return row
    return (tuple([entry // divisor for entry in row[0]]), up(row[1], divisor))
