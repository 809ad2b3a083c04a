"""The text of a plan: how it is read, and how it is written."""

from cutyard.errors import NoName, NoText, TooGreat, Twice
from cutyard.plans import MOST_ROWS, MOST_UNKNOWNS
from cutyard.rows import turned

LETTERS = "abcdefghijklmnopqrstuvwxyz"
FIGURES = "0123456789"
MOST_LETTERS = 12
MOST_FIGURES = 4


def is_name(word):
    """Whether the word is a name: small letters, neither none nor too many."""
    if len(word) < 1 or len(word) > MOST_LETTERS:
        return False
    return all([sign in LETTERS for sign in word])


def number_form(word):
    """The number that the word writes, or None where it writes none."""
    figures = word[1:] if word.startswith("-") else word
    if len(figures) < 1 or len(figures) > MOST_FIGURES:
        return None
    if not all([sign in FIGURES for sign in figures]):
        return None
    # So there are no noughts ahead, and no -0.
    if figures[0] == "0" and word != "0":
        return None
    return int(word)


def sum_form(words):
    """The terms (number, name) of a sum, or None where the words are no sum."""
    if words == ["0"]:
        return ()
    if len(words) % 3 != 2:
        return None
    terms = []
    for place in range(0, len(words), 3):
        number = number_form(words[place])
        name = words[place + 1]
        if number is None or not is_name(name):
            return None
        if place > 0 and words[place - 1] != "+":
            return None
        terms.append((number, name))
    return tuple(terms)


def unknown_form(words):
    """("unknown", name, (least, most)), or None."""
    if len(words) not in (4, 6) or words[2] != "from" or not is_name(words[1]):
        return None
    least = number_form(words[3])
    if least is None:
        return None
    if len(words) == 4:
        return ("unknown", words[1], (least, None))
    most = number_form(words[5])
    if words[4] != "to" or most is None:
        return None
    return ("unknown", words[1], (least, most))


def row_form(words):
    """("row", terms, number, whether the row is to be turned), or None."""
    if len(words) < 5 or words[-3] != "at" or words[-2] not in ("least", "most"):
        return None
    # Names may be like the words of the form, so the sum is what lies between its two ends.
    terms = sum_form(words[1:-3])
    number = number_form(words[-1])
    if terms is None or number is None:
        return None
    return ("row", terms, number, words[-2] == "most")


def worth_form(words):
    """("worth", terms, sense), or None."""
    terms = sum_form(words[1:])
    if terms is None:
        return None
    return ("worth", terms, 1 if words[0] == "most" else -1)


def line_form(line):
    """What a line says, as one of the three forms, or None where it is none of those told."""
    words = line.split(" ")
    if words[0] == "unknown":
        return unknown_form(words)
    if words[0] == "row":
        return row_form(words)
    if words[0] in ("most", "least"):
        return worth_form(words)
    return None


def sum_entries(terms, names, at):
    """The entries of a sum, one for each of the names."""
    entries = [0] * len(names)
    came = {}
    for number, name in terms:
        if name not in names:
            raise NoName(at)
        if name in came:
            raise Twice(at)
        came[name] = True
        entries[names.index(name)] = number
    return tuple(entries)


def turned_numbers(entries):
    """The numbers with their signs turned."""
    return tuple([-entry for entry in entries])


class Reading:
    """What was read of a text so far."""

    def __init__(self):
        self.names = []
        self.bounds = []
        self.rows = []
        self.worth = None

    def read_line(self, line, at):
        """Take up the line of this number."""
        form = line_form(line)
        if form is None or self.worth is not None:
            raise NoText(at)
        if form[0] == "unknown":
            self.read_unknown(form, at)
        elif form[0] == "row":
            self.read_row(form, at)
        else:
            self.worth = (sum_entries(form[1], self.names, at), form[2])

    def read_unknown(self, form, at):
        """Take up an unknown's line."""
        if len(self.rows) > 0:
            raise NoText(at)
        if form[1] in self.names:
            raise Twice(at)
        if len(self.names) == MOST_UNKNOWNS:
            raise TooGreat(at)
        self.names.append(form[1])
        self.bounds.append(form[2])

    def read_row(self, form, at):
        """Take up a row's line."""
        entries = sum_entries(form[1], self.names, at)
        if len(self.rows) == MOST_ROWS:
            raise TooGreat(at)
        # Turning "at most" is turning the row that has the sum and the number as they stand.
        row = (entries, form[2])
        self.rows.append(turned(row) if form[3] else row)


def read_plan(text):
    """The names, the plan and the sense that the text tells."""
    reading = Reading()
    lines = text.split("\n")
    for place, line in enumerate(lines):
        reading.read_line(line, place + 1)
    if reading.worth is None:
        raise NoText(len(lines))
    goal = reading.worth[0]
    sense = reading.worth[1]
    if sense == -1:
        goal = turned_numbers(goal)
    plan = (tuple(reading.bounds), tuple(reading.rows), goal)
    return (tuple(reading.names), plan, sense)


def written_unknown(name, bounds):
    """The line of an unknown."""
    least = bounds[0]
    most = bounds[1]
    if most is None:
        return f"unknown {name} from {least}"
    return f"unknown {name} from {least} to {most}"


def written_sum(names, entries):
    """The sum, without the terms that have entry 0."""
    terms = [f"{entry} {name}" for entry, name in zip(entries, names) if entry != 0]
    if len(terms) == 0:
        return "0"
    return " + ".join(terms)


def written_row(names, row):
    """The line of a row."""
    total = written_sum(names, row[0])
    bound = row[1]
    return f"row {total} at least {bound}"


def written_worth(names, goal, sense):
    """The line of the worth."""
    if sense == -1:
        total = written_sum(names, turned_numbers(goal))
        return f"least {total}"
    total = written_sum(names, goal)
    return f"most {total}"


def write_plan(names, plan, sense):
    """The text that is read as these names, this plan and this sense."""
    lines = [written_unknown(name, bounds) for name, bounds in zip(names, plan[0])]
    lines.extend([written_row(names, row) for row in plan[1]])
    lines.append(written_worth(names, plan[2], sense))
    return "\n".join(lines)
