"""The walk of [13] and [14], told again with fractions, and the sums of [15]."""

import math
from fractions import Fraction


def solved(matrix, right):
    """The one x with matrix x = right; the matrix is square and has a solution for each right."""
    n = len(matrix)
    lines = [[Fraction(a) for a in line] + [Fraction(b)] for line, b in zip(matrix, right)]
    for k in range(n):
        pivot = next(i for i in range(k, n) if lines[i][k] != 0)
        lines[k], lines[pivot] = lines[pivot], lines[k]
        lines[k] = [a / lines[k][k] for a in lines[k]]
        for i in range(n):
            if i != k and lines[i][k] != 0:
                factor = lines[i][k]
                lines[i] = [a - factor * b for a, b in zip(lines[i], lines[k])]
    return [line[n] for line in lines]


def times(entries, numbers):
    return sum((Fraction(a) * b for a, b in zip(entries, numbers)), Fraction(0))


def corner_of(rows, held):
    return solved([rows[k][0] for k in held], [rows[k][1] for k in held])


def ways_of(rows, held):
    """A dict from the numbers of the held rows to their ways."""
    matrix = [rows[k][0] for k in held]
    return {number: solved(matrix, [1 if k == number else 0 for k in held]) for number in held}


def as_point(fractions):
    bottom = math.lcm(*[f.denominator for f in fractions])
    return tuple(int(f * bottom) for f in fractions), bottom


def as_ray(fractions):
    tops = as_point(fractions)[0]
    return tuple(top // math.gcd(*tops) for top in tops)


def as_shares(weights, divisor):
    """Shares and divisor in lowest terms, of a dict from numbers to fractions above 0."""
    order = sorted(weights)
    tops, bottom = as_point([weights[k] for k in order] + [Fraction(divisor)])
    factor = math.gcd(*tops)
    return tuple((k, top // factor) for k, top in zip(order, tops)), tops[-1] // factor


def step(rows, goal, held):
    """(let go, held), or the ending, as [14] tells it."""
    corner = corner_of(rows, held)
    ways = ways_of(rows, held)
    missed = [k for k, row in enumerate(rows) if times(row[0], corner) < row[1]]
    if missed:
        number = min(missed)
        raisers = [k for k in held if times(rows[number][0], ways[k]) > 0]
        if raisers:
            return min(raisers), number
        weights = {k: -times(rows[number][0], ways[k]) for k in held if times(rows[number][0], ways[k]) < 0}
        weights[number] = Fraction(1)
        shares = as_shares(weights, 0)[0]
        return ("none", shares)
    growing = [k for k in held if times(goal, ways[k]) > 0]
    if growing:
        gone = min(growing)
        lengths = {}
        for k, row in enumerate(rows):
            grows = times(row[0], ways[gone])
            if grows < 0:
                lengths[k] = (times(row[0], corner) - row[1]) / -grows
        if not lengths:
            return ("endless", as_point(corner), as_ray(ways[gone]))
        return gone, min(k for k in lengths if lengths[k] == min(lengths.values()))
    weights = {k: -times(goal, ways[k]) for k in held if times(goal, ways[k]) < 0}
    shares, divisor = as_shares(weights, 1)
    return ("best", as_point(corner), shares, divisor)


def walked(rows, goal):
    """The trail and the ending."""
    held = list(range(len(goal)))
    trail = []
    while True:
        told = step(rows, goal, sorted(held))
        if isinstance(told[0], str):
            return tuple(trail), told
        trail.append(told)
        held.remove(told[0])
        held.append(told[1])


def summed(rows, shares, n):
    """The sums of weight times entries and of weight times bound."""
    entries = tuple(sum(weight * rows[k][0][i] for k, weight in shares) for i in range(n))
    return entries, sum(weight * rows[k][1] for k, weight in shares)


def numbers_fit(rows, shares):
    return all(0 <= k < len(rows) and weight >= 0 for k, weight in shares)


def met_by_point(rows, goal, point):
    tops, bottom = point
    if bottom < 1 or len(tops) != len(goal):
        return False
    return all(times(row[0], [Fraction(top, bottom) for top in tops]) >= row[1] for row in rows)


def goes_on(rows, goal, ray):
    if len(ray) != len(goal):
        return False
    return all(times(row[0], ray) >= 0 for row in rows) and times(goal, ray) > 0


def ending_holds(rows, goal, told):
    """Whether an ending is true, as [20] tells it."""
    n = len(goal)
    if told[0] == "none":
        shares = told[1]
        if not numbers_fit(rows, shares):
            return False
        entries, bound = summed(rows, shares, n)
        return entries == (0,) * n and bound > 0
    if told[0] == "endless":
        return met_by_point(rows, goal, told[1]) and goes_on(rows, goal, told[2])
    point, shares, divisor = told[1:]
    if not met_by_point(rows, goal, point) or not numbers_fit(rows, shares) or divisor < 1:
        return False
    entries, bound = summed(rows, shares, n)
    worth = times(goal, [Fraction(top, point[1]) for top in point[0]])
    return entries == tuple(-divisor * g for g in goal) and bound == -divisor * worth
