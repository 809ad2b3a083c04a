"""The yard: a plan that changes, and what is known of it."""

from cutyard.errors import NoChange, NoRow, TooGreat
from cutyard.plans import MOST_ROWS, givens
from cutyard.rows import left, meets
from cutyard.settle import settled


def moved_number(number, first_moved):
    """The number of a row when one is put ahead of the first one that moves."""
    return number + 1 if number >= first_moved else number


def moved_line(line, first_moved):
    """The line of a paper when a row is put ahead of the first one that moves."""
    if line[0] == "cut":
        shares = tuple([(moved_number(number, first_moved), weight) for number, weight in line[1]])
        return ("cut", shares, line[2])
    if line[0] == "shut":
        return ("shut", moved_number(line[1], first_moved))
    return line


def known_with_row(known, plan, row):
    """What stays known of the plan where the row is put behind its rows, or None."""
    if known is None or known[0] == "none" or not meets(row, known[1]):
        return None
    if known[0] == "best":
        # The better row stands behind the givens: it moves, and so does what stands behind it.
        first_moved = len(givens(plan))
        return ("best", known[1], tuple([moved_line(line, first_moved) for line in known[2]]))
    return known if left(row[0], known[2]) >= 0 else None


def known_without_row(known):
    """What stays known where a row is taken out, or None."""
    return known if known is not None and known[0] == "endless" else None


class Yard:
    """A plan as it stands, what is known of it (None where nothing is), and both as they were ahead of each change."""

    def __init__(self, plan):
        self.plan = plan
        self.known = None
        self.changes = []

    def change(self, plan, known):
        """Put the plan in the place of the one that stands."""
        self.changes.append((self.plan, self.known))
        self.plan = plan
        self.known = known

    def put_row(self, row):
        """Put a row behind the plan's rows."""
        plan = self.plan
        if len(plan[1]) >= MOST_ROWS:
            raise TooGreat(None)
        self.change((plan[0], plan[1] + (row,), plan[2]), known_with_row(self.known, plan, row))

    def take_row(self, number):
        """Take the row of this number out."""
        plan = self.plan
        if number < 0 or number >= len(plan[1]):
            raise NoRow()
        rows = plan[1][:number] + plan[1][number + 1:]
        self.change((plan[0], rows, plan[2]), known_without_row(self.known))

    def turn(self, goal):
        """Put a goal in the place of the goal."""
        self.change((self.plan[0], self.plan[1], goal), None)

    def back(self):
        """Take the last change back that was not taken back yet."""
        if len(self.changes) == 0:
            raise NoChange()
        before = self.changes.pop()
        self.plan = before[0]
        self.known = before[1]

    def plan_now(self):
        """The plan as it stands."""
        return self.plan

    def answer(self):
        """How the plan as it stands is settled: what is known, or what is known from now on."""
        if self.known is None:
            self.known = settled(self.plan)
        return self.known
