"""The search for a spot that meets all givens, or for a paper that shows that there is none.

Only the tied givens count: along the inner ray the others grow as far as they need, while the
tied ones stay as they are. These hang on the forms alone and bound each form on both ends, so
choices by forms come to an end. That end may be far off where a side lies askew to the forms:
so a side that asks for many choices is given forms that fit its shape.
"""

from cutyard.bases import Basis
from cutyard.first import beginning
from cutyard.levels import levels
from cutyard.rows import left, meets, width
from cutyard.shapes import fitted_shape
from cutyard.sides import Side, broken_form, near_choice, shut_lines, walk_side
from cutyard.ways import inner
from cutyard.wholes import up

# So many choices are made on a side before its shape is asked for.
FEW_CHOICES = 40
# Behind so many shapes, one within the other, the forms stay: so the search ends in any case.
MOST_SHAPES = 100


def tied_basis(rows, tied):
    """A basis of the forms of the tied rows.

    The forms are what lies across the columns on which all tied rows are noughts: they come
    out shorter this way than the turns that belong to the tied rows.
    """
    n = width(rows)
    down = levels(n, tuple([rows[number][0] for number in tied]))
    across = levels(n, down[1][down[2]:])
    return Basis(across[1][across[2]:], across[0][across[2]:])


def corner_spot(basis, stand):
    """The spot at which the forms have the whole numbers that they have at the corner."""
    numbers = [left(entries, stand.tops) // stand.bottom for entries in basis.turns]
    return basis.spot_of(numbers, len(stand.tops))


def search_by_forms(side, basis, most):
    """("found", spot), ("none", lines), or ("open",) behind so many choices; with a most below 0 there are any."""
    noughts = (0,) * width(side.rows)
    lines = []
    waiting = [side]
    while len(waiting) > 0:
        here = waiting.pop()
        walked = walk_side(here, noughts)
        stand = walked[0]
        if walked[1][0] == "none":
            lines.extend(shut_lines(here, walked[1][1]))
            continue
        entries = broken_form(basis.turns, stand)
        if entries is None:
            return ("found", corner_spot(basis, stand))
        if most == 0:
            return ("open",)
        most = most - 1
        choice = near_choice(here, stand, entries)
        lines.append(choice.line)
        waiting.extend([choice.other, choice.one])
    return ("none", lines)


def search(side, basis):
    """("found", spot), a spot that meets the rows that are looked at, or ("none", paper)."""
    asked = [side.rows[number] for number in side.numbers]
    lines = []
    waiting = [(side, basis, MOST_SHAPES)]
    while len(waiting) > 0:
        task = waiting.pop()
        told = search_by_forms(task[0], task[1], FEW_CHOICES if task[2] > 0 else -1)
        if told[0] == "found":
            return told
        if told[0] == "none":
            lines.extend(told[1])
            continue
        shape = fitted_shape(task[0], task[1])
        spot = shape.middle_spot()
        if all([meets(row, spot) for row in asked]):
            return ("found", spot)
        choice = shape.halving_choice()
        lines.append(choice.line)
        waiting.extend([(part, shape.basis, task[2] - 1) for part in (choice.other, choice.one)])
    return ("none", tuple(lines))


def along_ray(rows, ray, spot):
    """The spot with the ray added as often as the rows that grow along it need."""
    times = 0
    for row in rows:
        growth = left(row[0], ray)
        if growth > 0:
            times = max(times, up(row[1] - left(row[0], spot), growth))
    return tuple([number + times * step for number, step in zip(spot, ray)])


def found(rows):
    """("found", spot), a spot that meets each given, or ("none", paper), a paper that is right for them."""
    ways = inner(rows)
    tied = [number for number, weight in enumerate(ways[1]) if weight > 0]
    side = Side(rows, tuple(tied), beginning(rows, width(rows)))
    told = search(side, tied_basis(rows, tied))
    if told[0] == "none":
        return told
    return ("found", along_ray(rows, ways[0], told[1]))
