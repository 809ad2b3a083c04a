"""Cuts and papers, told again with fractions, and papers made by choices of single unknowns."""

from fractions import Fraction

import oracle
from cutyard.first import first


def slow_cut(rows, shares, divisor):
    """[17], told again with fractions."""
    if not shares or divisor < 1 or not oracle.numbers_fit(rows, shares):
        return None
    entries, bound = oracle.summed(rows, shares, len(rows[0][0]))
    entries = [Fraction(entry, divisor) for entry in entries]
    if any(entry.denominator != 1 for entry in entries):
        return None
    return tuple(int(entry) for entry in entries), -(-bound // divisor)


def slow_bars(rows, paper):
    """[18] and [19], told again, each side with rows of its own."""
    width = len(rows[0][0]) if rows else 0
    sides = [tuple(rows)]
    for line in paper:
        if not sides:
            return False
        standing = sides.pop()
        if line[0] == "cut":
            row = slow_cut(standing, line[1], line[2])
            if row is None:
                return False
            sides.append(standing + (row,))
        elif line[0] == "choice":
            if len(line[1]) != width:
                return False
            sides.append(standing + ((line[1], line[2] + 1),))
            sides.append(standing + ((tuple(-e for e in line[1]), -line[2]),))
        else:
            if not 0 <= line[1] < len(standing):
                return False
            entries, bound = standing[line[1]]
            if any(entries) or bound <= 0:
                return False
    return not sides


def made_paper(rows, n, deep=60):
    """A right paper for the rows, by choices of single unknowns; None where a spot meets all or too many are asked."""
    told = first(rows, (0,) * n)
    if told[0] == "none":
        return (("cut", told[1], 1), ("shut", len(rows)))
    tops, bottom = told[1]
    parts = [k for k in range(n) if tops[k] % bottom != 0]
    if not parts or deep == 0:
        return None
    entries = tuple(1 if k == parts[0] else 0 for k in range(n))
    k = tops[parts[0]] // bottom
    one = made_paper(rows + ((tuple(-e for e in entries), -k),), n, deep - 1)
    other = one and made_paper(rows + ((entries, k + 1),), n, deep - 1)
    if not other:
        return None
    return (("choice", entries, k),) + one + other
