"""Cuts: rows that all spots meet, and that a corner which isn't whole misses."""

from cutyard.first import in_lowest, walk
from cutyard.looker import line_row


def broken_unknown(stand):
    """The first unknown that isn't whole at the corner, or None."""
    for place, top in enumerate(stand.tops):
        if top % stand.bottom != 0:
            return place
    return None


def unknown_cut(stand, place):
    """The cut of an unknown that isn't whole at the corner.

    The unknown's unit row is the sum of the held rows, each as often as its way has of the
    unknown. The whole parts taken off, the sum of the bounds is still as broken as the unknown.
    """
    weights = [way[place] % stand.bottom for way in stand.ways]
    pairs = [(number, weight) for number, weight in zip(stand.held, weights) if weight > 0]
    reduced = in_lowest(pairs, stand.bottom)
    return ("cut", tuple(sorted(reduced[0])), reduced[1])


def corner_cut(rows, goal):
    """A cut that the best point misses, where it isn't whole; else None."""
    walked = walk(rows, goal)
    if walked[2][0] != "best":
        return None
    place = broken_unknown(walked[1])
    if place is None:
        return None
    return unknown_cut(walked[1], place)


def rounds(rows, goal, many):
    """At most so many cuts, each of the best point of the rows and the cuts ahead."""
    lines = []
    while len(lines) < many:
        line = corner_cut(rows, goal)
        if line is None:
            break
        lines.append(line)
        rows = rows + (line_row(rows, line[1], line[2]),)
    return tuple(lines)
