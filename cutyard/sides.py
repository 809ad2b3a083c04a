"""Sides of a search: the rows that stand there, and the walk to a corner of them."""

from cutyard.first import walk_on
from cutyard.rows import left, turned


class Side:
    """The rows that stand on a side, and those of them that are looked at, by their rising numbers.

    The stand is one that a walk over earlier rows came to: the side's own walk goes on from there.
    """

    def __init__(self, rows, numbers, stand):
        self.rows = rows
        self.numbers = numbers
        self.stand = stand


def walk_side(side, goal):
    """The pair (last stand, ending) of the side's walk."""
    return walk_on(side.rows, side.numbers, goal, side.stand)[1:]


def side_with(side, stand, row):
    """The side with a row behind; weaker rows with the same entries needn't be looked at any longer."""
    numbers = [number for number in side.numbers if side.rows[number][0] != row[0] or side.rows[number][1] > row[1]]
    return Side(side.rows + (row,), tuple(numbers) + (len(side.rows),), stand)


class Choice:
    """A choice at a side: its line, and the two sides that it makes."""

    def __init__(self, side, stand, entries, k):
        self.line = ("choice", entries, k)
        self.one = side_with(side, stand, turned((entries, k)))
        self.other = side_with(side, stand, (entries, k + 1))


def shut_lines(side, shares):
    """The lines that shut a side by shares of noughts."""
    return [("cut", shares, 1), ("shut", len(side.rows))]


def broken_form(forms, stand):
    """The first of the forms that isn't whole at the stand's corner, or None."""
    for entries in forms:
        if left(entries, stand.tops) % stand.bottom != 0:
            return entries
    return None


def near_choice(side, stand, entries):
    """The choice by a form that isn't whole at the corner, the side that is nearer to the corner first."""
    top = left(entries, stand.tops)
    if 2 * (top % stand.bottom) <= stand.bottom:
        return Choice(side, stand, entries, top // stand.bottom)
    return Choice(side, stand, tuple([-entry for entry in entries]), -top // stand.bottom)
