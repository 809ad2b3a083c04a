"""Plans: tuples (bounds, rows, goal)."""

from cutyard.rows import left, turned, unit

MOST_UNKNOWNS = 8
MOST_ROWS = 12


def givens(plan):
    """The least rows, then the most rows, then the plan's own rows."""
    bounds = plan[0]
    n = len(bounds)
    least_rows = [(unit(n, place), bounds[place][0]) for place in range(n)]
    most_rows = [turned((unit(n, place), bounds[place][1])) for place in range(n) if bounds[place][1] is not None]
    return tuple(least_rows) + tuple(most_rows) + plan[1]


def worth(plan, spot):
    """The sum of goal number times number."""
    return left(plan[2], spot)


def better(plan, w):
    """The row that is met by just those spots that are worth more than w."""
    return (plan[2], w + 1)
