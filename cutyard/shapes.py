"""The shape of a side: forms that reach as little on it as can be."""

from cutyard.rows import left
from cutyard.shorter import shorten
from cutyard.sides import Choice, Side, walk_side
from cutyard.wholes import nearest

# Lengths are told in parts of 1, so many to the 1: what is finer isn't seen.
PARTS = 1048576
MOST_FITTINGS = 6


def parts_between(entries, point, other):
    """How far the form grows from the one point to the other, in parts."""
    grown = left(entries, other[0]) * point[1] - left(entries, point[0]) * other[1]
    return nearest(PARTS * grown, point[1] * other[1])


def reaches(forms, points):
    """For each form a vector: how far it grows from the first point to each of them, and a 1 of its own.

    With the ones no vector hangs on the others, even where the points lie flat.
    """
    vectors = []
    for place, entries in enumerate(forms):
        own = [1 if other == place else 0 for other in range(len(forms))]
        vectors.append([parts_between(entries, points[0], point) for point in points] + own)
    return vectors


class Shape:
    """A side, a basis of its forms, and for each form the two points of the side where it reaches farthest.

    `points` has all such points that were met with, as the keys of a dict.
    """

    def __init__(self, side, basis):
        self.side = side
        self.basis = basis
        self.ends = []
        self.points = {}

    def far_point(self, goal):
        """A point of the side at which the goal is greatest."""
        walked = walk_side(self.side, goal)
        # The next walk has less far to go from there.
        self.side = Side(self.side.rows, self.side.numbers, walked[0])
        self.points[walked[1][1]] = True
        return walked[1][1]

    def measure(self):
        """Find how far the forms reach."""
        self.ends = []
        for entries in self.basis.turns:
            low = self.far_point(tuple([-entry for entry in entries]))
            self.ends.append((low, self.far_point(entries)))

    def fit(self):
        """Turn the forms into ones that reach less, until their points tell nothing new of the shape."""
        self.measure()
        for turn in range(MOST_FITTINGS):
            before = list(self.basis.turns)
            shorten(self.basis, reaches(before, list(self.points)))
            if self.basis.turns == before:
                break
            self.measure()

    def order(self):
        """Put the forms that reach least first."""
        parts = [parts_between(entries, pair[0], pair[1]) for entries, pair in zip(self.basis.turns, self.ends)]
        places = sorted(range(len(parts)), key=lambda place: parts[place])
        self.basis = self.basis.picked(places)
        self.ends = [self.ends[place] for place in places]

    def spot_near(self, point, times):
        """The spot whose forms are nearest to the point, led to the middle of the points: one part of so many of it."""
        points = list(self.points)
        bottom = point[1] * PARTS * len(points)
        numbers = []
        for entries in self.basis.turns:
            parts = [nearest(PARTS * left(entries, other[0]), other[1]) for other in points]
            top = left(entries, point[0]) * PARTS * len(points)
            numbers.append(nearest(top * (times - 1) + sum(parts) * point[1], bottom * times))
        return self.basis.spot_of(numbers, len(point[0]))

    def middle_spot(self):
        """The spot whose forms are nearest to the middle of the points."""
        return self.spot_near(self.ends[0][0], 1)

    def halving_choice(self):
        """The choice that halves the form that reaches least, of those that don't have one whole number alone."""
        place = 0
        while self.is_settled(place):
            place = place + 1
        entries = self.basis.turns[place]
        low = self.ends[place][0]
        high = self.ends[place][1]
        total = left(entries, low[0]) * high[1] + left(entries, high[0]) * low[1]
        return Choice(self.side, self.side.stand, entries, total // (2 * low[1] * high[1]))

    def is_settled(self, place):
        """Whether the form at this place has one whole number on all the side."""
        entries = self.basis.turns[place]
        low = self.ends[place][0]
        high = self.ends[place][1]
        low_top = left(entries, low[0])
        return low_top % low[1] == 0 and low_top * high[1] == left(entries, high[0]) * low[1]


def fitted_shape(side, basis):
    """The shape of the side, by forms that reach little and stand in the order of their reach."""
    shape = Shape(side, basis.picked(list(range(len(basis.turns)))))
    shape.fit()
    shape.order()
    return shape
