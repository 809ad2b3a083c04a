"""The inner ray: a way that goes against no given, and along which all grow that can."""

from cutyard.first import first
from cutyard.rows import left, width
from cutyard.wholes import common


def summed(lists, n):
    """The sum of the lists, number by number."""
    return tuple([sum([entries[place] for entries in lists]) for place in range(n)])


def divided(numbers):
    """The numbers divided by their common."""
    divisor = common(numbers)
    if divisor == 0:
        return tuple(numbers)
    return tuple([number // divisor for number in numbers])


def ask_still(rows, ray):
    """The numbers of the givens that don't grow along the ray, and how the walk for their sum ends, all bounds 0.

    As they are asked together, either one of them grows along the walk's ray, or none can and each has a weight.
    """
    still = [number for number, row in enumerate(rows) if left(row[0], ray) == 0]
    goal = summed([rows[number][0] for number in still], len(ray))
    return (still, first(tuple([(row[0], 0) for row in rows]), goal))


def inner(rows):
    """(ray, weights): of each given just one, its entries times the ray or its weight, is above 0."""
    n = width(rows)
    ray = (0,) * n
    asked = ask_still(rows, ray)
    while asked[1][0] == "endless":
        ray = summed([ray, asked[1][2]], n)
        asked = ask_still(rows, ray)
    ending = asked[1]
    weights = [0] * len(rows)
    for number in asked[0]:
        weights[number] = ending[3]
    for number, weight in ending[2]:
        weights[number] = weights[number] + weight
    return (divided(ray), divided(weights))
