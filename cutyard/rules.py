"""The rules by which a plan is made smaller: each tells what of the plan it speaks to, or None.

A plan that was made smaller keeps its places: bounds, entries and goal have a part for each
unknown as told. `staying` are the numbers of the unknowns that stand; those that went have
the entry 0 in each row.
"""

from cutyard.wholes import common


def is_crossed(pair):
    """Whether the least is above the most."""
    return pair[1] is not None and pair[0] > pair[1]


def greatest_sum(bounds, entries):
    """The greatest sum of the entries within the bounds, or None where there is none."""
    total = 0
    for pair, entry in zip(bounds, entries):
        if entry > 0:
            if pair[1] is None:
                return None
            total = total + entry * pair[1]
        elif entry < 0:
            total = total + entry * pair[0]
    return total


def least_sum(bounds, entries):
    """The least sum of the entries within the bounds, or None where there is none."""
    total = greatest_sum(bounds, [-entry for entry in entries])
    return None if total is None else -total


def crossed_unknown(bounds, staying):
    """R0: the first unknown whose least is above its most."""
    for unknown in staying:
        if is_crossed(bounds[unknown]):
            return unknown
    return None


def hopeless_row(bounds, rows):
    """R1: the place of the first row that can't be met."""
    for place, row in enumerate(rows):
        total = greatest_sum(bounds, row[0])
        if total is not None and total < row[1]:
            return place
    return None


def idle_row(bounds, rows):
    """R2: the place of the first row that always holds."""
    for place, row in enumerate(rows):
        total = least_sum(bounds, row[0])
        if total is not None and total >= row[1]:
            return place
    return None


def single_row(rows):
    """R3: the place of the first row with just one entry other than 0."""
    for place, row in enumerate(rows):
        if len([entry for entry in row[0] if entry != 0]) == 1:
            return place
    return None


def uneven_row(rows):
    """R4: the place of the first row whose common is above 1."""
    for place, row in enumerate(rows):
        if common(row[0]) > 1:
            return place
    return None


def doubled_row(rows):
    """R5: the place of the row that goes, of the first two with the same entries."""
    came = {}
    for place, row in enumerate(rows):
        if row[0] in came:
            earlier = came[row[0]]
            return earlier if rows[earlier][1] < row[1] else place
        came[row[0]] = place
    return None


def fixed_unknown(bounds, staying):
    """R6: the first unknown whose least is its most."""
    for unknown in staying:
        if bounds[unknown][0] == bounds[unknown][1]:
            return unknown
    return None


def has_above(rows, unknown):
    """Whether some row has a number above 0 at the unknown."""
    return any([row[0][unknown] > 0 for row in rows])


def has_below(rows, unknown):
    """Whether some row has a number below 0 at the unknown."""
    return any([row[0][unknown] < 0 for row in rows])


def sinking_unknown(bounds, rows, goal, staying):
    """R7: the first unknown that no row and not the goal would have above its least."""
    for unknown in staying:
        if not is_crossed(bounds[unknown]) and goal[unknown] <= 0 and not has_above(rows, unknown):
            return unknown
    return None


def rising_unknown(bounds, rows, goal, staying):
    """R8: the first unknown that no row and not the goal would have below its most."""
    for unknown in staying:
        pair = bounds[unknown]
        if pair[1] is not None and not is_crossed(pair) and goal[unknown] >= 0 and not has_below(rows, unknown):
            return unknown
    return None


def hanging_unknown(bounds, rows, goal, staying):
    """R9: the first unknown without a most and a worth that no row would have less."""
    for unknown in staying:
        if bounds[unknown][1] is None and goal[unknown] == 0 and not has_below(rows, unknown):
            return unknown
    return None
