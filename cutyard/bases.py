"""Turns and columns that go with one another."""

from cutyard.rows import unit


def less(entries, times, others):
    """The entries with the others taken off so many times."""
    return tuple([entry - times * other for entry, other in zip(entries, others)])


class Basis:
    """Turns and columns: turns[i] times columns[k] is 1 where i is k, else 0, and stays so."""

    def __init__(self, turns, columns):
        self.turns = list(turns)
        self.columns = list(columns)

    def lessen_column(self, place, times, other):
        """Take the other column off the one at this place so many times."""
        self.columns[place] = less(self.columns[place], times, self.columns[other])
        self.turns[other] = less(self.turns[other], -times, self.turns[place])

    def lessen_turn(self, place, times, other):
        """Take the other turn off the one at this place so many times."""
        self.lessen_column(other, -times, place)

    def exchange(self, place, other):
        """Let what stands at the two places change places."""
        turn = self.turns[place]
        column = self.columns[place]
        self.turns[place] = self.turns[other]
        self.columns[place] = self.columns[other]
        self.turns[other] = turn
        self.columns[other] = column

    def picked(self, places):
        """A basis of what stands at these places, in this order."""
        return Basis([self.turns[place] for place in places], [self.columns[place] for place in places])

    def spot_of(self, numbers, n):
        """The spot of n numbers on which the turns have these numbers: the sum of number times column."""
        spot = (0,) * n
        for number, column in zip(numbers, self.columns):
            spot = less(spot, -number, column)
        return spot


def plain_basis(n):
    """The basis of the n unknowns as they are."""
    units = [unit(n, place) for place in range(n)]
    return Basis(units, units)
