"""A plan that is made smaller, and how each part of it follows from the plan as told."""

from cutyard.plans import givens
from cutyard.rows import evened
from cutyard.wholes import common, up


def without(entries, unknown):
    """The entries with 0 at the unknown."""
    return tuple([0 if place == unknown else entry for place, entry in enumerate(entries)])


def only_unknown(entries):
    """The one unknown whose entry isn't 0."""
    return [place for place, entry in enumerate(entries) if entry != 0][0]


def first_most_marks(bounds):
    """For each unknown the number of its most row among the givens, None where it has none."""
    marks = []
    number = len(bounds)
    for pair in bounds:
        if pair[1] is None:
            marks.append(None)
        else:
            marks.append(number)
            number = number + 1
    return marks


class Ledger:
    """The plan as it stands by then, with a mark for each least, each most and each row.

    A mark is the number of that row among the givens as told, with the rows of `lines` behind
    them. Unknowns that went keep their places, with entries of 0.
    """

    def __init__(self, plan):
        self.bounds = list(plan[0])
        self.rows = list(plan[1])
        self.goal = plan[2]
        self.staying = list(range(len(plan[0])))
        self.told = len(givens(plan))
        self.lines = []
        self.least_marks = list(range(len(plan[0])))
        self.most_marks = first_most_marks(plan[0])
        self.row_marks = list(range(self.told - len(plan[1]), self.told))
        # What the goal lost with the unknowns that went, as shares, and what these are worth.
        self.goal_shares = []
        self.extra = 0
        # For each unknown that went, in order: the unknown, the least it may be, the rows it hangs on.
        self.gone = []

    def put_line(self, shares, divisor):
        """Put a cut behind the lines; the mark of its row."""
        self.lines.append(("cut", shares, divisor))
        return self.told + len(self.lines) - 1

    def drop_row(self, place):
        """R2 and R5: the row goes."""
        self.rows.pop(place)
        self.row_marks.pop(place)

    def turn_to_bound(self, place):
        """R3: the row of one unknown becomes its least or its most, where it is stronger, and goes."""
        row = self.rows[place]
        mark = self.row_marks[place]
        unknown = only_unknown(row[0])
        entry = row[0][unknown]
        pair = self.bounds[unknown]
        bound = up(row[1], abs(entry))
        if entry > 0 and bound > pair[0]:
            self.bounds[unknown] = (bound, pair[1])
            self.least_marks[unknown] = self.put_line(((mark, 1),), entry)
        elif entry < 0 and (pair[1] is None or -bound < pair[1]):
            self.bounds[unknown] = (pair[0], -bound)
            self.most_marks[unknown] = self.put_line(((mark, 1),), -entry)
        self.drop_row(place)

    def even_row(self, place):
        """R4: the row is evened."""
        row = self.rows[place]
        self.row_marks[place] = self.put_line(((self.row_marks[place], 1),), common(row[0]))
        self.rows[place] = evened(row)

    def bound_share(self, unknown, entry):
        """The share that takes the entry of an unknown away: by its most where it is above 0, else by its least."""
        if entry > 0:
            return (self.most_marks[unknown], entry)
        return (self.least_marks[unknown], -entry)

    def fix(self, unknown, number):
        """R6, R7 and R8: the unknown goes with this number, at which all rows with it keep their strength."""
        for place in range(len(self.rows)):
            row = self.rows[place]
            entry = row[0][unknown]
            if entry != 0:
                shares = ((self.row_marks[place], 1), self.bound_share(unknown, entry))
                self.row_marks[place] = self.put_line(shares, 1)
                self.rows[place] = (without(row[0], unknown), row[1] - entry * number)
        worth = self.goal[unknown]
        if worth != 0:
            self.goal_shares.append(self.bound_share(unknown, worth))
            self.extra = self.extra + worth * number
        self.let_go(unknown, number, [])

    def hang(self, unknown):
        """R9: the unknown goes, and the rows that it can always meet."""
        places = [place for place, row in enumerate(self.rows) if row[0][unknown] != 0]
        self.let_go(unknown, self.bounds[unknown][0], [self.rows[place] for place in places])
        for place in reversed(places):
            self.drop_row(place)

    def let_go(self, unknown, least, rows):
        """The unknown goes; it comes back with the least number from least on that meets the rows."""
        self.gone.append((unknown, least, tuple(rows)))
        self.staying.remove(unknown)
