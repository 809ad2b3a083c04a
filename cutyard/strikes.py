"""Striking out ahead: a plan is made smaller, and what is told of the slim plan is led back."""

from cutyard.ledger import Ledger
from cutyard.rows import left
from cutyard.rules import crossed_unknown, doubled_row, hopeless_row, idle_row, single_row, uneven_row
from cutyard.rules import fixed_unknown, hanging_unknown, rising_unknown, sinking_unknown
from cutyard.wholes import up


def row_struck(ledger):
    """Use the first of R2 to R5 that speaks; whether there was one."""
    place = idle_row(ledger.bounds, ledger.rows)
    if place is not None:
        ledger.drop_row(place)
        return True
    place = single_row(ledger.rows)
    if place is not None:
        ledger.turn_to_bound(place)
        return True
    place = uneven_row(ledger.rows)
    if place is not None:
        ledger.even_row(place)
        return True
    place = doubled_row(ledger.rows)
    if place is not None:
        ledger.drop_row(place)
        return True
    return False


def unknown_struck(ledger):
    """Use the first of R6 to R9 that speaks; whether there was one."""
    unknown = fixed_unknown(ledger.bounds, ledger.staying)
    if unknown is None:
        unknown = sinking_unknown(ledger.bounds, ledger.rows, ledger.goal, ledger.staying)
    if unknown is not None:
        ledger.fix(unknown, ledger.bounds[unknown][0])
        return True
    unknown = rising_unknown(ledger.bounds, ledger.rows, ledger.goal, ledger.staying)
    if unknown is not None:
        ledger.fix(unknown, ledger.bounds[unknown][1])
        return True
    unknown = hanging_unknown(ledger.bounds, ledger.rows, ledger.goal, ledger.staying)
    if unknown is not None:
        ledger.hang(unknown)
        return True
    return False


def hopeless_shares(ledger):
    """Shares of noughts and a bound above 0, where R0 or R1 speaks, or None."""
    unknown = crossed_unknown(ledger.bounds, ledger.staying)
    if unknown is not None:
        return ((ledger.least_marks[unknown], 1), (ledger.most_marks[unknown], 1))
    place = hopeless_row(ledger.bounds, ledger.rows)
    if place is None:
        return None
    entries = ledger.rows[place][0]
    shares = [ledger.bound_share(other, entry) for other, entry in enumerate(entries) if entry != 0]
    return ((ledger.row_marks[place], 1),) + tuple(shares)


def strike(ledger):
    """Use the rules as long as one speaks; the shares that show that there is no answer, or None."""
    shares = hopeless_shares(ledger)
    while shares is None and (row_struck(ledger) or unknown_struck(ledger)):
        shares = hopeless_shares(ledger)
    return shares


def picked(numbers, places):
    """The numbers at these places."""
    return tuple([numbers[place] for place in places])


def slim_plan(ledger):
    """The plan as it stands, of the unknowns that stand alone."""
    rows = [(picked(row[0], ledger.staying), row[1]) for row in ledger.rows]
    return (picked(ledger.bounds, ledger.staying), tuple(rows), picked(ledger.goal, ledger.staying))


def slim_marks(ledger):
    """The marks of the slim plan's givens, in their order."""
    mosts = [mark for mark in picked(ledger.most_marks, ledger.staying) if mark is not None]
    return list(picked(ledger.least_marks, ledger.staying)) + mosts + ledger.row_marks


def spread(numbers, places, n):
    """The numbers at these places of n, and 0 at the others."""
    spot = [0] * n
    for place, number in zip(places, numbers):
        spot[place] = number
    return spot


def least_meeting(unknown, least, rows, spot):
    """The least number from least on with which the rows are met; the spot has 0 at the unknown."""
    needs = [up(row[1] - left(row[0], spot), row[0][unknown]) for row in rows]
    return max([least] + needs)


def mark_numbers(ledger, marks, better):
    """The numbers of the marks' rows: the better row, if there is one, stands behind the givens."""
    return [mark + 1 if better and mark >= ledger.told else mark for mark in marks]


def moved_shares(ledger, shares, better):
    """The shares of marks as shares of numbers."""
    numbers = mark_numbers(ledger, [share[0] for share in shares], better)
    return tuple([(number, share[1]) for number, share in zip(numbers, shares)])


def lines_ahead(ledger, better):
    """The lines behind which each row of the slim plan stands, the better row's last."""
    lines = [("cut", moved_shares(ledger, line[1], better), line[2]) for line in ledger.lines]
    if better:
        shares = moved_shares(ledger, ledger.goal_shares, better)
        lines.append(("cut", ((ledger.told, 1),) + shares, 1))
    return lines


class Guide:
    """Leads the lines of a paper for the slim plan over to the plan as told.

    `numbers` has a number for each row of the slim plan. The rows that the paper puts behind
    these are put behind the `count` rows that stand once the lines ahead were read.
    """

    def __init__(self, ledger, better):
        self.ahead = lines_ahead(ledger, better)
        self.count = ledger.told + len(self.ahead)
        self.numbers = mark_numbers(ledger, slim_marks(ledger), better)
        if better:
            # The plan's better row counts too; that of the slim plan is the last one ahead.
            self.numbers.append(self.count)
            self.count = self.count + 1
        self.kept = tuple(ledger.staying)
        self.breadth = len(ledger.goal)

    def row_number(self, number):
        """The number that a row's number becomes."""
        if number < len(self.numbers):
            return self.numbers[number]
        return number - len(self.numbers) + self.count

    def line_back(self, line):
        """What a line of the paper becomes."""
        if line[0] == "cut":
            return ("cut", tuple([(self.row_number(number), weight) for number, weight in line[1]]), line[2])
        if line[0] == "choice":
            return ("choice", tuple(spread(line[1], self.kept, self.breadth)), line[2])
        return ("shut", self.row_number(line[1]))


class Struck:
    """A plan that was made smaller by the rules."""

    def __init__(self, plan):
        ledger = Ledger(plan)
        shares = strike(ledger)
        self.ledger = ledger
        self.breadth = len(plan[0])
        if shares is None:
            self.kind = "slim"
            self.paper = None
            self.slim = slim_plan(ledger)
            self.kept = tuple(ledger.staying)
            self.extra = ledger.extra
        else:
            mark = ledger.put_line(shares, 1)
            self.kind = "none"
            self.paper = tuple(ledger.lines) + (("shut", mark),)
            self.slim = None
            self.kept = ()
            self.extra = 0

    def point_back(self, spot):
        """The answer of the plan as told that an answer of the slim plan leads to."""
        numbers = spread(spot, self.kept, self.breadth)
        for unknown, least, rows in reversed(self.ledger.gone):
            numbers[unknown] = least_meeting(unknown, least, rows, numbers)
        return tuple(numbers)

    def ray_back(self, ray):
        """The ray of the plan as told that a ray of the slim plan leads to."""
        numbers = spread(ray, self.kept, self.breadth)
        for gone in reversed(self.ledger.gone):
            level_rows = [(row[0], 0) for row in gone[2]]
            numbers[gone[0]] = least_meeting(gone[0], 0, level_rows, numbers)
        return tuple(numbers)

    def paper_back(self, paper, better):
        """The paper for the plan as told that a paper for the slim plan leads to."""
        guide = Guide(self.ledger, better)
        return tuple(guide.ahead + [guide.line_back(line) for line in paper])
