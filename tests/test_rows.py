import unittest
from fractions import Fraction

from aids import is_plain, maker, numbers, same
from cutyard.rows import evened, left, meets, passes, turned

GREAT = 10 ** 200 + 1


class LeftTest(unittest.TestCase):
    def test_sums(self):
        self.assertTrue(same(left((2, -3), (4, 5)), -7))
        self.assertTrue(same(left((2, 0, 1), (-1, 99, 2)), 0))
        self.assertTrue(same(left((GREAT, -GREAT), (GREAT, 1)), GREAT * GREAT - GREAT))

    def test_no_unknowns(self):
        self.assertTrue(same(left((), ()), 0))


class MeetsTest(unittest.TestCase):
    def test_at_one_below_and_one_above_the_bound(self):
        for bound in (-7, 0, 12, GREAT):
            self.assertIs(meets(((1,), bound), (bound,)), True)
            self.assertIs(meets(((1,), bound), (bound - 1,)), False)
            self.assertIs(meets(((1,), bound), (bound + 1,)), True)

    def test_several_unknowns(self):
        self.assertIs(meets(((2, -3), -7), (4, 5)), True)
        self.assertIs(meets(((2, -3), -6), (4, 5)), False)
        self.assertIs(meets(((2, -3), -8), (4, 5)), True)

    def test_no_unknowns(self):
        self.assertIs(meets(((), 0), ()), True)
        self.assertIs(meets(((), -1), ()), True)
        self.assertIs(meets(((), 1), ()), False)


class PassesTest(unittest.TestCase):
    def test_at_one_below_and_one_above_the_bound(self):
        row = ((2, -4), 1)
        self.assertIs(passes(row, ((5, 1), 6)), True)
        self.assertIs(passes(row, ((4, 1), 6)), False)
        self.assertIs(passes(row, ((6, 1), 6)), True)

    def test_points_that_are_not_in_lowest_terms(self):
        for factor in (2, 3, 10):
            self.assertIs(passes(((2,), 3), ((3 * factor,), 2 * factor)), True)
            self.assertIs(passes(((2,), 3), ((3 * factor - 1,), 2 * factor)), False)
            self.assertIs(passes(((2,), 3), ((3 * factor + 1,), 2 * factor)), True)

    def test_bounds_below_nought(self):
        self.assertIs(passes(((1,), -1), ((-3,), 3)), True)
        self.assertIs(passes(((1,), -1), ((-4,), 3)), False)
        self.assertIs(passes(((1,), -1), ((-2,), 3)), True)

    def test_no_unknowns(self):
        self.assertIs(passes(((), 0), ((), 1)), True)
        self.assertIs(passes(((), -2), ((), 1)), True)
        self.assertIs(passes(((), 1), ((), 1)), False)
        self.assertIs(passes(((), 1), ((), 5)), False)

    def test_made_up_points(self):
        chance = maker(11)
        for _ in range(300):
            n = chance.randint(0, 4)
            row = (numbers(chance, n, 5), chance.randint(-4, 4))
            point = (numbers(chance, n, 9), chance.randint(1, 6))
            total = sum((Fraction(e * t, point[1]) for e, t in zip(row[0], point[0])), Fraction(0))
            self.assertIs(passes(row, point), total >= row[1])

    def test_whole_points_are_as_their_spots(self):
        for number in (-2, -1, 0, 1):
            self.assertIs(passes(((3,), -3), ((number,), 1)), meets(((3,), -3), (number,)))


class TurnedTest(unittest.TestCase):
    def test_all_signs_are_turned(self):
        self.assertTrue(same(turned(((1, -2, 0), 3)), ((-1, 2, 0), -3)))
        self.assertTrue(same(turned(((), -4)), ((), 4)))
        self.assertTrue(same(turned(((0,), 0)), ((0,), 0)))
        self.assertTrue(same(turned(((GREAT,), -GREAT)), ((-GREAT,), GREAT)))

    def test_twice_turned_is_as_it_was(self):
        row = ((5, -6), 7)
        self.assertTrue(same(turned(turned(row)), row))


class EvenedTest(unittest.TestCase):
    def test_with_a_common_divisor_and_an_even_bound(self):
        self.assertTrue(same(evened(((4, -6), 8)), ((2, -3), 4)))
        self.assertTrue(same(evened(((4, -6), -8)), ((2, -3), -4)))
        self.assertTrue(same(evened(((-5, 0), 0)), ((-1, 0), 0)))

    def test_with_a_common_divisor_and_an_uneven_bound(self):
        self.assertTrue(same(evened(((4, -6), 7)), ((2, -3), 4)))
        self.assertTrue(same(evened(((4, -6), -7)), ((2, -3), -3)))
        self.assertTrue(same(evened(((-3, 9), 1)), ((-1, 3), 1)))
        self.assertTrue(same(evened(((-3, 9), -1)), ((-1, 3), 0)))

    def test_without_a_common_divisor(self):
        for bound in (-5, 0, 5):
            self.assertTrue(same(evened(((2, -3), bound)), ((2, -3), bound)))
            self.assertTrue(same(evened(((6, 10, 15), bound)), ((6, 10, 15), bound)))

    def test_noughts_and_no_entries_stay(self):
        for entries in ((), (0,), (0, 0, 0)):
            for bound in (-4, 0, 6):
                self.assertTrue(same(evened((entries, bound)), (entries, bound)))

    def test_great_numbers(self):
        self.assertTrue(same(evened(((2 * GREAT, -4 * GREAT), 2 * GREAT + 1)), ((1, -2), 2)))

    def test_the_same_spots_meet_it(self):
        chance = maker(12)
        for _ in range(100):
            row = (tuple(2 * e for e in numbers(chance, 2, 4)), chance.randint(-9, 9))
            told = evened(row)
            self.assertTrue(is_plain(told))
            for x in range(-4, 5):
                for y in range(-4, 5):
                    self.assertIs(meets(row, (x, y)), meets(told, (x, y)))


if __name__ == "__main__":
    unittest.main()
