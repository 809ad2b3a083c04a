"""The looker: whether cuts, papers, endings and verdicts are right."""

from cutyard.plans import better, givens, worth
from cutyard.rows import left, meets, passes, width
from cutyard.wholes import up


def is_row_number(rows, number):
    """Whether there is a row of this number."""
    return number >= 0 and number < len(rows)


def shares_sum(rows, shares, n):
    """The sum of weight times row over the shares, as a row, or None where a number or a weight is wrong."""
    entries = [0] * n
    bound = 0
    for number, weight in shares:
        if not is_row_number(rows, number) or weight < 0:
            return None
        row = rows[number]
        entries = [total + weight * entry for total, entry in zip(entries, row[0])]
        bound = bound + weight * row[1]
    return (tuple(entries), bound)


def line_row(rows, shares, divisor):
    """The row of the cut that the shares and the divisor tell, or None where they tell none."""
    if len(shares) == 0 or divisor < 1:
        return None
    summed = shares_sum(rows, shares, width(rows))
    if summed is None:
        return None
    if any([entry % divisor != 0 for entry in summed[0]]):
        return None
    return (tuple([entry // divisor for entry in summed[0]]), up(summed[1], divisor))


def can_shut(rows, number):
    """Whether the row of this number is there and can't be met by anything."""
    if not is_row_number(rows, number):
        return False
    row = rows[number]
    return row[1] > 0 and all([entry == 0 for entry in row[0]])


class Sides:
    """The rows that stand on the side that is read, and the sides kept for later.

    The rows of a side kept are always the first of those that stand, and its own row
    behind them: so their count and that row are all that is kept of it.
    """

    def __init__(self, rows):
        self.standing = list(rows)
        self.breadth = width(rows)
        self.waiting = []

    def cut(self, shares, divisor):
        """Put the cut's row behind; whether the line is right."""
        row = line_row(self.standing, shares, divisor)
        if row is None:
            return False
        self.standing.append(row)
        return True

    def choose(self, entries, k):
        """Make two sides and read the one on; whether the line is right."""
        if len(entries) != self.breadth:
            return False
        self.waiting.append((len(self.standing), (entries, k + 1)))
        self.standing.append((tuple([-entry for entry in entries]), -k))
        return True

    def resume(self):
        """Read the side on that was kept last."""
        side = self.waiting.pop()
        while len(self.standing) > side[0]:
            self.standing.pop()
        self.standing.append(side[1])


def bars(rows, paper):
    """Whether the paper is right for the rows."""
    sides = Sides(rows)
    for place, line in enumerate(paper):
        if line[0] == "cut":
            right = sides.cut(line[1], line[2])
        elif line[0] == "choice":
            right = sides.choose(line[1], line[2])
        else:
            right = can_shut(sides.standing, line[1])
        if not right:
            return False
        if line[0] == "shut":
            if len(sides.waiting) == 0:
                return place == len(paper) - 1
            sides.resume()
    return False


def none_holds(rows, goal, shares):
    """Whether the shares show that no point meets all rows."""
    summed = shares_sum(rows, shares, len(goal))
    if summed is None:
        return False
    return all([entry == 0 for entry in summed[0]]) and summed[1] > 0


def is_ray(rows, goal, ray):
    """Whether the ray goes against no row, and the worth grows along it."""
    if len(ray) != len(goal):
        return False
    return all([left(row[0], ray) >= 0 for row in rows]) and left(goal, ray) > 0


def is_point(rows, goal, point):
    """Whether it is a point that meets all rows."""
    if point[1] < 1 or len(point[0]) != len(goal):
        return False
    return all([passes(row, point) for row in rows])


def is_answer(rows, goal, spot):
    """Whether it is a spot that meets all rows."""
    if len(spot) != len(goal):
        return False
    return all([meets(row, spot) for row in rows])


def best_holds(rows, goal, point, shares, divisor):
    """Whether the point meets all rows, and the shares show that none that does is worth more."""
    if divisor < 1 or not is_point(rows, goal, point):
        return False
    summed = shares_sum(rows, shares, len(goal))
    if summed is None:
        return False
    if summed[0] != tuple([-divisor * number for number in goal]):
        return False
    return summed[1] * point[1] == -divisor * left(goal, point[0])


def shares_hold(rows, goal, told):
    """Whether one of the three endings of the walk is true."""
    if told[0] == "none":
        return none_holds(rows, goal, told[1])
    if told[0] == "endless":
        return is_point(rows, goal, told[1]) and is_ray(rows, goal, told[2])
    return best_holds(rows, goal, told[1], told[2], told[3])


def holds(plan, told):
    """Whether one of the three verdicts on the plan is true."""
    rows = givens(plan)
    goal = plan[2]
    if told[0] == "none":
        return bars(rows, told[1])
    if not is_answer(rows, goal, told[1]):
        return False
    if told[0] == "endless":
        return is_ray(rows, goal, told[2])
    return bars(rows + (better(plan, worth(plan, told[1])),), told[2])
