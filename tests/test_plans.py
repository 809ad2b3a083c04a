import unittest

from aids import same
from cutyard.plans import better, givens, worth
from cutyard.rows import meets

GREAT = 10 ** 199


class GivensTest(unittest.TestCase):
    def asked(self, plan, told):
        self.assertTrue(same(givens(plan), told), plan)

    def test_no_unknowns(self):
        self.asked(((), (), ()), ())
        self.asked(((), (((), 3), ((), -1)), ()), (((), 3), ((), -1)))

    def test_no_rows(self):
        self.asked((((2, None),), (), (5,)), (((1,), 2),))
        self.asked((((2, 7),), (), (5,)), (((1,), 2), ((-1,), -7)))

    def test_least_rows_then_most_rows_then_rows(self):
        plan = (((-3, 4), (0, None), (5, 6)), (((1, 2, 3), 4), ((0, 0, 0), -1)), (1, 1, 1))
        self.asked(plan, (
            ((1, 0, 0), -3),
            ((0, 1, 0), 0),
            ((0, 0, 1), 5),
            ((-1, 0, 0), -4),
            ((0, 0, -1), -6),
            ((1, 2, 3), 4),
            ((0, 0, 0), -1),
        ))

    def test_a_most_of_0_is_a_most(self):
        self.asked((((-1, 0),), (), (0,)), (((1,), -1), ((-1,), 0)))

    def test_least_above_most(self):
        self.asked((((4, 3),), (), (0,)), (((1,), 4), ((-1,), -3)))

    def test_rows_that_come_twice_stay(self):
        row = ((1,), 0)
        self.asked((((0, None),), (row, row), (0,)), (row, row, row))

    def test_great_numbers(self):
        self.asked((((-GREAT, GREAT),), (), (GREAT,)), (((1,), -GREAT), ((-1,), -GREAT)))


class WorthTest(unittest.TestCase):
    def test_sums(self):
        plan = (((0, None), (0, None)), (), (3, -2))
        self.assertTrue(same(worth(plan, (4, 5)), 2))
        self.assertTrue(same(worth(plan, (-1, 1)), -5))
        self.assertTrue(same(worth(plan, (GREAT, 0)), 3 * GREAT))

    def test_no_unknowns(self):
        self.assertTrue(same(worth(((), (((), 1),), ()), ()), 0))


class BetterTest(unittest.TestCase):
    def test_worths_of_either_sign(self):
        plan = (((0, None), (0, 9)), (((1, 1), 1),), (3, -2))
        for w in (-GREAT, -5, -1, 0, 1, 7, GREAT):
            self.assertTrue(same(better(plan, w), ((3, -2), w + 1)))

    def test_no_unknowns(self):
        self.assertTrue(same(better(((), (), ()), -1), ((), 0)))

    def test_just_the_better_spots_meet_it(self):
        plan = (((0, None), (0, None)), (), (3, -2))
        row = better(plan, -4)
        for x in range(-3, 4):
            for y in range(-3, 4):
                self.assertIs(meets(row, (x, y)), worth(plan, (x, y)) > -4)


class AskedAgainTest(unittest.TestCase):
    def test_nothing_hangs_on_what_was_asked_before(self):
        plan = (((-3, 4), (0, None)), (((1, 2), 4),), (1, -1))
        told = (givens(plan), worth(plan, (1, 2)), better(plan, 3))
        givens((((0, 0),), (), (9,)))
        self.assertTrue(same((givens(plan), worth(plan, (1, 2)), better(plan, 3)), told))


if __name__ == "__main__":
    unittest.main()
