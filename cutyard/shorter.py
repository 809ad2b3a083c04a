"""Shorter turns: those of a basis are turned into others that are short and far from alike.

It is the well-known reduction of Lenstra, Lenstra and Lovasz, in whole numbers: each division
on the way leaves no rest.
"""

from cutyard.rows import left
from cutyard.wholes import nearest


class Lengths:
    """How long vectors are, each across those ahead of it.

    sizes[k] is the squared volume of the first k vectors; slants[k][j], over sizes[j + 1],
    is how often vector k leans along what vector j has across those ahead of it.
    """

    def __init__(self, vectors):
        self.sizes = [1]
        self.slants = []
        for vector in vectors:
            self.put_vector([left(vector, other) for other in vectors])

    def put_vector(self, products):
        """Take up the next vector, told by its products with all vectors."""
        slant = []
        for j in range(len(self.slants) + 1):
            number = products[j]
            other = self.slants[j] if j < len(self.slants) else slant
            for i in range(j):
                number = (self.sizes[i + 1] * number - slant[i] * other[i]) // self.sizes[i]
            slant.append(number)
        self.sizes.append(slant.pop())
        self.slants.append(slant)

    def leaning(self, k, j):
        """How often vector j is best taken off vector k."""
        if 2 * abs(self.slants[k][j]) <= self.sizes[j + 1]:
            return 0
        return nearest(self.slants[k][j], self.sizes[j + 1])

    def lessen(self, k, times, j):
        """Vector j is taken off vector k so many times."""
        for i in range(j):
            self.slants[k][i] = self.slants[k][i] - times * self.slants[j][i]
        self.slants[k][j] = self.slants[k][j] - times * self.sizes[j + 1]

    def swapped_size(self, k):
        """What sizes[k] becomes where the vectors k - 1 and k change places."""
        slant = self.slants[k][k - 1]
        return (self.sizes[k - 1] * self.sizes[k + 1] + slant * slant) // self.sizes[k]

    def is_out_of_order(self, k):
        """Whether the vectors k - 1 and k should change places."""
        return 4 * self.swapped_size(k) < 3 * self.sizes[k]

    def swap(self, k):
        """The vectors k - 1 and k change places."""
        size = self.swapped_size(k)
        slant = self.slants[k][k - 1]
        for j in range(k - 1):
            number = self.slants[k][j]
            self.slants[k][j] = self.slants[k - 1][j]
            self.slants[k - 1][j] = number
        for i in range(k + 1, len(self.slants)):
            number = self.slants[i][k]
            across = (self.sizes[k + 1] * self.slants[i][k - 1] - slant * number) // self.sizes[k]
            self.slants[i][k] = across
            self.slants[i][k - 1] = (size * number + slant * across) // self.sizes[k + 1]
        self.sizes[k] = size


def lean_off(basis, lengths, k, j):
    """Take turn j off turn k as often as is best."""
    times = lengths.leaning(k, j)
    if times != 0:
        lengths.lessen(k, times, j)
        basis.lessen_turn(k, times, j)


def shorten(basis, vectors):
    """Turn the turns of the basis into short ones, where each is as long as its vector."""
    lengths = Lengths(vectors)
    k = 1
    while k < len(vectors):
        lean_off(basis, lengths, k, k - 1)
        if lengths.is_out_of_order(k):
            lengths.swap(k)
            basis.exchange(k, k - 1)
            k = max(1, k - 1)
        else:
            for j in range(k - 2, -1, -1):
                lean_off(basis, lengths, k, j)
            k = k + 1
