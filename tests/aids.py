"""What several tests use: kinds of values, and made-up rows."""

import random


def is_whole(value):
    return isinstance(value, int) and not isinstance(value, bool)


def is_plain(value):
    """Tuples, whole numbers, texts and None alone, as [2] asks."""
    if isinstance(value, tuple):
        return all(is_plain(part) for part in value)
    return value is None or isinstance(value, str) or is_whole(value)


def same(one, other):
    """Equal, and of equal kinds all the way down (1 is not True, () is not [])."""
    if type(one) is not type(other):
        return False
    if isinstance(one, tuple):
        return len(one) == len(other) and all(same(a, b) for a, b in zip(one, other))
    return one == other


def maker(seed):
    """Made-up numbers that are the same at each run."""
    return random.Random(seed)


def numbers(chance, count, size):
    return tuple(chance.randint(-size, size) for _ in range(count))


def least_row(n, place, bound):
    return (tuple(1 if k == place else 0 for k in range(n)), bound)


def made_givens(chance, n, more, size):
    """Givens of n unknowns: least rows, and as many more rows of any kind behind them."""
    rows = [least_row(n, k, chance.randint(-size, size)) for k in range(n)]
    rows += [(numbers(chance, n, size), chance.randint(-size, size)) for _ in range(more)]
    return tuple(rows)


def dot(entries, spot):
    return sum(a * b for a, b in zip(entries, spot))


def meets_all(rows, spot):
    return all(dot(entries, spot) >= bound for entries, bound in rows)
