import itertools
import unittest

from aids import dot, is_plain, least_row, made_givens, maker, meets_all, numbers, same
from cutyard.cuts import corner_cut, rounds
from cutyard.first import first
from cutyard.looker import line_row
from cutyard.plans import givens
from papers import slow_cut

GREAT = 10 ** 200


def is_broken(rows, goal):
    """Whether `first` tells best at a point that isn't whole."""
    told = first(rows, goal)
    return told[0] == "best" and told[1][1] > 1


def misses(row, point):
    return dot(row[0], point[0]) < row[1] * point[1]


def boxed(rows, size):
    """All spots within a small box that meet the rows."""
    n = len(rows[0][0])
    for spot in itertools.product(range(-size, size + 1), repeat=n):
        if meets_all(rows, spot):
            yield spot


def made_case(chance):
    """Givens of few unknowns and a goal, most with a best point that isn't whole."""
    n = chance.randint(0, 3)
    size = chance.choice((2, 3, 9))
    rows = made_givens(chance, n, chance.randint(0, 4), size)
    if n > 0 and chance.randint(0, 4) > 0:
        leasts = tuple(least_row(n, k, chance.randint(-3, 0)) for k in range(n))
        rows = leasts + tuple((entries, -abs(bound)) for entries, bound in rows[n:])
        rows += ((tuple(chance.randint(-size, -1) for _ in range(n)), chance.randint(-4 * size, 0)),)
    return rows, numbers(chance, n, size)


class CutCase(unittest.TestCase):
    def right_line(self, rows, goal, line):
        """The line is a cut over the rows, and the best point misses its row; its row is told."""
        self.assertTrue(is_plain(line))
        self.assertEqual(len(line), 3)
        self.assertEqual(line[0], "cut")
        row = slow_cut(rows, line[1], line[2])
        self.assertIsNotNone(row)
        self.assertTrue(same(line_row(rows, line[1], line[2]), row))
        self.assertTrue(misses(row, first(rows, goal)[1]), (rows, goal, line))
        return row


class CornerCutTest(CutCase):
    def test_a_bottom_of_2(self):
        # 2 x at most 7, and x is to be as great as can be: x at most 3.
        rows = (((1,), 0), ((-2,), -7))
        row = self.right_line(rows, (1,), corner_cut(rows, (1,)))
        self.assertEqual(row, ((-1,), -3))

    def test_two_unknowns(self):
        # 2 x + 2 y at most 3, x + y is to be great.
        rows = givens((((0, None), (0, None)), (((-2, -2), -3),), (1, 1)))
        line = corner_cut(rows, (1, 1))
        row = self.right_line(rows, (1, 1), line)
        for spot in ((0, 0), (1, 0), (0, 1)):
            self.assertGreaterEqual(dot(row[0], spot), row[1])

    def test_bottoms_far_above_2(self):
        for bottom in (3, 97, 10 ** 30 + 57, GREAT - 1):
            rows = (((1, 0), 0), ((0, 1), 0), ((-bottom, -1), -bottom * 5 - 1), ((1, -bottom), -3))
            goal = (bottom, bottom - 1)
            self.assertTrue(is_broken(rows, goal))
            self.right_line(rows, goal, corner_cut(rows, goal))

    def test_whole_points(self):
        self.assertIsNone(corner_cut((((1,), 3),), (-1,)))
        self.assertIsNone(corner_cut((((1,), 3),), (0,)))
        rows = givens((((0, 4), (-3, 9)), (((-1, -1), -6),), (2, 1)))
        self.assertIsNone(corner_cut(rows, (2, 1)))
        # The point is whole, though the held rows have a determinant above 1.
        rows = (((1, 0), 0), ((0, 1), 0), ((-2, 0), -4), ((0, -3), -9))
        self.assertIsNone(corner_cut(rows, (1, 1)))

    def test_none_and_endless(self):
        self.assertIsNone(corner_cut((((1,), 4), ((-2,), -7)), (1,)))
        self.assertIsNone(corner_cut((((1,), 0), ((2,), 3)), (1,)))
        # Endless from a corner that isn't whole.
        self.assertEqual(first((((1,), 0), ((2,), 3)), (1,))[:2], ("endless", ((3,), 2)))

    def test_no_unknowns(self):
        self.assertIsNone(corner_cut((), ()))
        self.assertIsNone(corner_cut((((), -1),), ()))
        self.assertIsNone(corner_cut((((), 1),), ()))

    def test_made_up_givens(self):
        chance = maker(51)
        broken = whole = 0
        for _ in range(700):
            rows, goal = made_case(chance)
            line = corner_cut(rows, goal)
            if is_broken(rows, goal):
                broken += 1
                row = self.right_line(rows, goal, line)
                for spot in boxed(rows, 4):
                    whole += 1
                    self.assertGreaterEqual(dot(row[0], spot), row[1])
            else:
                self.assertIsNone(line)
        self.assertGreater(broken, 150)
        self.assertGreater(whole, 1000)

    def test_great_givens(self):
        chance = maker(52)
        broken = 0
        for _ in range(4):
            rows = tuple(least_row(8, k, chance.randint(-GREAT, GREAT)) for k in range(8))
            rows += tuple((tuple(chance.randint(-GREAT, -1) for _ in range(8)), -GREAT * GREAT * 9) for _ in range(12))
            goal = tuple(chance.randint(1, GREAT) for _ in range(8))
            if is_broken(rows, goal):
                broken += 1
                self.right_line(rows, goal, corner_cut(rows, goal))
        self.assertGreater(broken, 2)


class RoundsTest(CutCase):
    def right_rounds(self, rows, goal, many):
        """Each line is a cut of the rows ahead of it, and the end is where it is told; the lines are told."""
        lines = rounds(rows, goal, many)
        self.assertIsInstance(lines, tuple)
        self.assertLessEqual(len(lines), many)
        for line in lines:
            self.assertTrue(is_broken(rows, goal))
            rows += (self.right_line(rows, goal, line),)
        if len(lines) < many:
            self.assertFalse(is_broken(rows, goal))
        return lines

    def test_many_of_0(self):
        self.assertTrue(same(rounds((((1,), 0), ((-2,), -7)), (1,), 0), ()))
        self.assertTrue(same(rounds((), (), 0), ()))

    def test_many_of_1(self):
        rows = (((1,), 0), ((-2,), -7))
        self.assertEqual(len(self.right_rounds(rows, (1,), 1)), 1)

    def test_it_ends_at_a_whole_point(self):
        # One cut makes x whole.
        rows = (((1,), 0), ((-2,), -7))
        self.assertEqual(len(self.right_rounds(rows, (1,), 12)), 1)

    def test_whole_none_endless(self):
        for many in (0, 1, 12):
            for rows, goal in (((((1,), 3),), (-1,)), ((((1,), 4), ((-2,), -7)), (1,)), ((((1,), 0), ((2,), 3)), (1,)),
                               ((), ()), ((((), 1),), ())):
                self.assertTrue(same(rounds(rows, goal, many), ()))

    def test_it_ends_at_none(self):
        # 3 x - 3 y is 1: the cuts leave no point.
        rows = (((1, 0), 0), ((0, 1), 0), ((3, -3), 1), ((-3, 3), -1), ((-1, -1), -9))
        lines = self.right_rounds(rows, (1, 0), 12)
        self.assertGreater(len(lines), 0)
        self.assertLess(len(lines), 12)

    def test_as_many_as_asked(self):
        # Knapsacks that ask for many cuts.
        rows = givens((((0, 1),) * 5, (((-13, -17, -19, -23, -29), -50),), (0,) * 5))
        goal = (14, 18, 20, 25, 31)
        longest = 0
        for many in range(13):
            lines = self.right_rounds(rows, goal, many)
            longest = max(longest, len(lines))
        self.assertGreater(longest, 2)

    def test_no_whole_spot_is_lost(self):
        chance = maker(53)
        lines = whole = full = 0
        for _ in range(300):
            rows, goal = made_case(chance)
            many = chance.choice((1, 2, 5, 12))
            spots = list(boxed(rows, 4)) if rows else []
            told = self.right_rounds(rows, goal, many)
            full += len(told) == many
            for line in told:
                row = slow_cut(rows, line[1], line[2])
                rows += (row,)
                lines += 1
                whole += len(spots)
                self.assertTrue(all(dot(row[0], spot) >= row[1] for spot in spots))
        self.assertGreater(lines, 100)
        self.assertGreater(whole, 500)
        self.assertGreater(full, 10)

    def test_great_givens(self):
        chance = maker(54)
        rows = tuple(least_row(4, k, 0) for k in range(4))
        rows += tuple((tuple(chance.randint(-GREAT, -1) for _ in range(4)), -GREAT * 9) for _ in range(4))
        goal = tuple(chance.randint(1, GREAT) for _ in range(4))
        self.assertEqual(len(self.right_rounds(rows, goal, 12)), 12)

    def test_asked_again_it_is_the_same(self):
        rows = givens((((0, 1),) * 3, (((-3, -5, -7), -9),), (0,) * 3))
        told = rounds(rows, (4, 6, 9), 12)
        rounds(rows, (1, 0, 0), 3)
        self.assertTrue(same(rounds(rows, (4, 6, 9), 12), told))


if __name__ == "__main__":
    unittest.main()
