"""Whole numbers: common divisors, rounding up, lowest terms."""

from cutyard.errors import NoNumber


def common_of_two(one, other):
    """The greatest whole number that divides both, 0 where both are 0."""
    greater = abs(one)
    lesser = abs(other)
    while lesser != 0:
        rest = greater % lesser
        greater = lesser
        lesser = rest
    return greater


def common(numbers):
    """The greatest whole number that divides each of the numbers, 0 of noughts and of none."""
    divisor = 0
    for number in numbers:
        divisor = common_of_two(number, divisor)
    return divisor


def up(top, bottom):
    """The least whole number that is not below top / bottom."""
    if bottom < 1:
        raise NoNumber()
    # // rounds down, so both turns of the sign make it round up.
    return -(-top // bottom)


def nearest(top, bottom):
    """A whole number that none is nearer to top / bottom than; the bottom has any sign, but isn't 0."""
    return (2 * top + bottom) // (2 * bottom)


def lowest(tops, bottom):
    """Tops and bottom, divided by the greatest number that divides them all."""
    if bottom < 1:
        raise NoNumber()
    divisor = common_of_two(common(tops), bottom)
    return (tuple([top // divisor for top in tops]), bottom // divisor)
