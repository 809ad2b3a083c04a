"""The desk: names, a plan and a sense, told one line at a time."""

from cutyard.errors import NoChange, NoRow, NoText, TooGreat, Twice
from cutyard.first import first
from cutyard.plans import MOST_ROWS, MOST_UNKNOWNS, givens, worth
from cutyard.rows import left, meets, turned
from cutyard.settle import settled
from cutyard.texts import line_form, number_form, sum_entries, turned_numbers, write_plan
from cutyard.wholes import lowest


def with_unknown(state, name, bounds):
    """The names, plan and sense with an unknown behind."""
    names = state[0]
    plan = state[1]
    if name in names:
        raise Twice(None)
    if len(names) >= MOST_UNKNOWNS:
        raise TooGreat(None)
    rows = tuple([(row[0] + (0,), row[1]) for row in plan[1]])
    return (names + (name,), (plan[0] + (bounds,), rows, plan[2] + (0,)), state[2])


def with_row(state, terms, number, at_most):
    """The names, plan and sense with a row behind."""
    plan = state[1]
    row = (sum_entries(terms, state[0], None), number)
    if len(plan[1]) >= MOST_ROWS:
        raise TooGreat(None)
    rows = plan[1] + (turned(row) if at_most else row,)
    return (state[0], (plan[0], rows, plan[2]), state[2])


def with_worth(state, terms, sense):
    """The names, plan and sense with another goal and sense."""
    plan = state[1]
    goal = sum_entries(terms, state[0], None)
    if sense == -1:
        goal = turned_numbers(goal)
    return (state[0], (plan[0], plan[1], goal), sense)


def without_row(state, number):
    """The names, plan and sense without the row of this number."""
    plan = state[1]
    if number < 0 or number >= len(plan[1]):
        raise NoRow()
    return (state[0], (plan[0], plan[1][:number] + plan[1][number + 1:], plan[2]), state[2])


def changed(state, form):
    """The names, plan and sense behind a line that changes them."""
    if form[0] == "unknown":
        return with_unknown(state, form[1], form[2])
    if form[0] == "row":
        return with_row(state, form[1], form[2], form[3])
    if form[0] == "worth":
        return with_worth(state, form[1], form[2])
    return without_row(state, form[1])


def named(names, spot):
    """The words of a spot or ray: each name and its number."""
    words = []
    for name, number in zip(names, spot):
        words.extend([name, str(number)])
    return words


def asked(state):
    """The answer to `ask`."""
    names = state[0]
    told = settled(state[1])
    if told[0] == "none":
        return "none"
    if told[0] == "best":
        total = state[2] * worth(state[1], told[1])
        return " ".join(["best", str(total)] + named(names, told[1]))
    return " ".join(["endless"] + named(names, told[1]) + ["by"] + named(names, told[2]))


def tried(state, spot):
    """The answer to `try`."""
    plan = state[1]
    for name, number, bounds in zip(state[0], spot, plan[0]):
        if number < bounds[0] or (bounds[1] is not None and number > bounds[1]):
            return f"misses unknown {name}"
    for place, row in enumerate(plan[1]):
        if not meets(row, spot):
            return f"misses row {place}"
    total = state[2] * worth(plan, spot)
    return f"meets {total}"


def in_fractions(state):
    """The answer to `fractions`."""
    goal = state[1][2]
    told = first(givens(state[1]), goal)
    if told[0] != "best":
        return told[0]
    point = told[1]
    reduced = lowest((state[2] * left(goal, point[0]),), point[1])
    top = reduced[0][0]
    bottom = reduced[1]
    return f"best {top}" if bottom == 1 else f"best {top}/{bottom}"


def numbers_form(words):
    """The numbers that the words write, or None where one writes none."""
    numbers = [number_form(word) for word in words]
    return None if None in numbers else tuple(numbers)


def say_form(line, n):
    """What a line says to a desk of n unknowns, its sort ahead, or None where it is none of those told."""
    if line in ("back", "ask", "fractions", "write"):
        return (line,)
    words = line.split(" ")
    if words[0] not in ("take", "try"):
        return line_form(line)
    numbers = numbers_form(words[1:])
    if numbers is None or len(numbers) != (1 if words[0] == "take" else n):
        return None
    return ("take", numbers[0]) if words[0] == "take" else ("try", numbers)


class Desk:
    """Names, plan and sense as they stand, and as they stood ahead of each line that changed them."""

    def __init__(self):
        self.state = ((), ((), (), ()), 1)
        self.states = []

    def say(self, line):
        """The desk's answer to the line."""
        form = say_form(line, len(self.state[0]))
        if form is None:
            raise NoText(None)
        if form[0] == "ask":
            return asked(self.state)
        if form[0] == "try":
            return tried(self.state, form[1])
        if form[0] == "fractions":
            return in_fractions(self.state)
        if form[0] == "write":
            return write_plan(self.state[0], self.state[1], self.state[2])
        if form[0] == "back":
            self.step_back()
        else:
            self.step_on(changed(self.state, form))
        return "ok"

    def step_on(self, state):
        """Let the desk stand so."""
        self.states.append(self.state)
        self.state = state

    def step_back(self):
        """Let the desk stand as it stood ahead of the last change."""
        if len(self.states) == 0:
            raise NoChange()
        self.state = self.states.pop()
