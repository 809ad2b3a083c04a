"""Levels: columns on which lists of numbers come to noughts one after another."""

from cutyard.bases import plain_basis
from cutyard.rows import left
from cutyard.wholes import nearest


def greatest_first(numbers):
    """The places of the numbers other than 0, those of the greatest sizes first."""
    places = [place for place, number in enumerate(numbers) if number != 0]
    return sorted(places, key=lambda place: abs(numbers[place]), reverse=True)


def gather(basis, many, entries):
    """Turn the columns from many on until the entries times just one of them isn't 0; its place, or None.

    The greatest is always lessened by the one next to it in size: so all shrink together,
    and the columns' own numbers stay small.
    """
    numbers = [0] * many + [left(entries, column) for column in basis.columns[many:]]
    places = greatest_first(numbers)
    while len(places) > 1:
        times = nearest(numbers[places[0]], numbers[places[1]])
        basis.lessen_column(places[0], times, places[1])
        numbers[places[0]] = numbers[places[0]] - times * numbers[places[1]]
        places = greatest_first(numbers)
    return places[0] if len(places) > 0 else None


def levels(n, lists):
    """(turns, columns, many): all lists are noughts on the columns from many on, and one steps down at each before."""
    basis = plain_basis(n)
    many = 0
    for entries in lists:
        place = gather(basis, many, entries)
        if place is not None:
            basis.exchange(place, many)
            many = many + 1
    return (tuple(basis.turns), tuple(basis.columns), many)
