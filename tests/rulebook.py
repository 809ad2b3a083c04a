"""The rules R0 to R9 of [24], told again: which of them speak to a plan."""

import math


def row_rules(bounds, rows):
    """Those of R1 to R5 that speak."""
    told = set()
    for k, (entries, bound) in enumerate(rows):
        parts = [(a, l, u) for a, (l, u) in zip(entries, bounds) if a != 0]
        if all(u is not None for a, l, u in parts if a > 0):
            if sum(a * u if a > 0 else a * l for a, l, u in parts) < bound:
                told.add("R1")
        if all(u is not None for a, l, u in parts if a < 0):
            if sum(a * l if a > 0 else a * u for a, l, u in parts) >= bound:
                told.add("R2")
        if len(parts) == 1:
            told.add("R3")
        if math.gcd(*entries) > 1:
            told.add("R4")
        if entries in [row[0] for row in rows[:k]]:
            told.add("R5")
    return told


def unknown_rules(bounds, rows, goal):
    """Those of R0 and R6 to R9 that speak."""
    told = set()
    for k, (least, most) in enumerate(bounds):
        signs = [row[0][k] for row in rows]
        if most is not None and least > most:
            told.add("R0")
            continue
        if least == most:
            told.add("R6")
        if all(a <= 0 for a in signs) and goal[k] <= 0:
            told.add("R7")
        if all(a >= 0 for a in signs):
            if most is not None and goal[k] >= 0:
                told.add("R8")
            if most is None and goal[k] == 0:
                told.add("R9")
    return told


def speaking(plan):
    """The names of the rules that speak to the plan."""
    bounds, rows, goal = plan
    return row_rules(bounds, rows) | unknown_rules(bounds, rows, goal)
