"""The climb to a best spot: a search in which each spot that is better than the one so far raises the better row.

The rows are the givens, the better row, and the better row evened; of the last two only the
evened one is looked at. A side is asked with the goal: where its best corner is whole, no spot
on it is worth more. Lines that shut a side do so as well where the better row's bound is greater.
"""

from cutyard.first import Stand, beginning
from cutyard.rows import evened, left, meets
from cutyard.search import FEW_CHOICES, MOST_SHAPES, along_ray, corner_spot, tied_basis
from cutyard.shapes import fitted_shape
from cutyard.sides import Side, broken_form, near_choice, shut_lines, walk_side
from cutyard.ways import inner
from cutyard.wholes import common, up


def raised_stand(stand, number, times):
    """The stand where the bound of the row of this number is greater by so much: a corner that it holds goes along."""
    if number not in stand.held:
        return stand
    way = stand.ways[stand.held.index(number)]
    tops = tuple([top + times * step for top, step in zip(stand.tops, way)])
    return Stand(stand.held, stand.ways, tops, stand.bottom)


def raised_side(side, number, bound):
    """The side with a greater bound of the row of this number, which is looked at again where it wasn't any longer."""
    row = side.rows[number]
    if bound == row[1]:
        return side
    rows = side.rows[:number] + ((row[0], bound),) + side.rows[number + 1:]
    numbers = tuple(sorted(set(side.numbers + (number,))))
    return Side(rows, numbers, raised_stand(side.stand, number, bound - row[1]))


class Climb:
    """The best spot so far, and the bound that the evened better row has by then."""

    def __init__(self, rows, goal, spot):
        self.rows = rows
        self.goal = goal
        self.spot = spot
        self.divisor = max(common(goal), 1)
        self.bound = up(left(goal, spot) + 1, self.divisor)
        better_row = (goal, left(goal, spot) + 1)
        standing = rows + (better_row, evened(better_row))
        ways = inner(standing)
        self.ray = ways[0]
        tied = [number for number, weight in enumerate(ways[1]) if weight > 0 and number != len(rows)]
        self.basis = tied_basis(standing, tied)
        self.side = Side(standing, tuple(tied), beginning(standing, len(goal)))

    def raised(self, side):
        """The side with the better row as it is by now."""
        return raised_side(side, len(self.rows) + 1, self.bound)

    def take(self, spot):
        """Let the spot, which meets the tied rows, be the best so far."""
        self.spot = along_ray(self.rows, self.ray, spot)
        self.bound = up(left(self.goal, spot) + 1, self.divisor)

    def is_better(self, spot):
        """Whether the spot meets the tied rows, and is worth more than the best so far."""
        rows = [self.rows[number] for number in self.side.numbers if number < len(self.rows)]
        return left(self.goal, spot) >= self.bound * self.divisor and all([meets(row, spot) for row in rows])

    def rise(self, shape, corner):
        """Take spots between the middle of the shape and its best corner, nearer and nearer; whether there was one."""
        times = 1
        spot = shape.spot_near(corner, times)
        while self.is_better(spot):
            self.take(spot)
            times = 2 * times
            spot = shape.spot_near(corner, times)
        return times > 1

    def barred_by_forms(self, side, basis, most):
        """The lines that bar what is better on the side, or None behind so many choices; below 0 there are any."""
        lines = []
        waiting = [side]
        while len(waiting) > 0:
            here = self.raised(waiting.pop())
            walked = walk_side(here, self.goal)
            if walked[1][0] == "none":
                lines.extend(shut_lines(here, walked[1][1]))
                continue
            entries = broken_form(basis.turns, walked[0])
            if entries is None:
                self.take(corner_spot(basis, walked[0]))
                # The better row as it is by now leaves nothing of this side.
                waiting.append(Side(here.rows, here.numbers, walked[0]))
                continue
            if most == 0:
                return None
            most = most - 1
            choice = near_choice(here, walked[0], entries)
            lines.append(choice.line)
            waiting.extend([choice.other, choice.one])
        return lines

    def barred(self):
        """The lines that bar all that is better than the best spot, which is found by then."""
        lines = [("cut", ((len(self.rows), 1),), self.divisor)]
        waiting = [(self.side, self.basis, MOST_SHAPES)]
        while len(waiting) > 0:
            task = waiting.pop()
            told = self.barred_by_forms(task[0], task[1], FEW_CHOICES if task[2] > 0 else -1)
            if told is not None:
                lines.extend(told)
                continue
            # A part of the side that was left open has a first answer: so the side has one, too.
            here = self.raised(task[0])
            walked = walk_side(here, self.goal)
            shape = fitted_shape(Side(here.rows, here.numbers, walked[0]), task[1])
            if self.rise(shape, walked[1][1]):
                waiting.append((here, shape.basis, task[2]))
                continue
            choice = shape.halving_choice()
            lines.append(choice.line)
            waiting.extend([(part, shape.basis, task[2] - 1) for part in (choice.other, choice.one)])
        return lines
