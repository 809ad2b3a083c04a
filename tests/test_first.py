import math
import unittest

import oracle
from aids import is_plain, least_row, made_givens, maker, numbers, same
from cutyard.first import first, trail
from cutyard.plans import givens


def made_case(chance):
    """Small numbers, noughts and rows that come twice, so that ties are common."""
    n = chance.randint(0, 4)
    size = chance.choice((1, 2, 3, 6))
    rows = made_givens(chance, n, chance.randint(0, 8), size)
    if len(rows) > n and chance.randint(0, 2) == 0:
        entries = chance.choice(rows[n:])[0]
        rows += ((entries, chance.randint(-size, size)), (tuple(-e for e in entries), chance.randint(-size, size)))
    if chance.randint(0, 3) == 0:
        rows += (((0,) * n, chance.randint(-1, 0)),)
    return rows, numbers(chance, n, size)


class WalkByHandTest(unittest.TestCase):
    def asked(self, rows, goal, steps, ending):
        self.assertTrue(same(trail(rows, goal), steps), trail(rows, goal))
        self.assertTrue(same(first(rows, goal), ending), first(rows, goal))

    def test_no_unknowns(self):
        self.asked((), (), (), ("best", ((), 1), (), 1))
        self.asked((((), 0), ((), -5)), (), (), ("best", ((), 1), (), 1))
        self.asked((((), 0), ((), 3), ((), 4)), (), (), ("none", ((1, 1),)))

    def test_best_at_once(self):
        self.asked((((1,), 3),), (-4,), (), ("best", ((3,), 1), ((0, 4),), 1))
        self.asked((((1,), 3),), (0,), (), ("best", ((3,), 1), (), 1))

    def test_endless_at_once(self):
        self.asked((((1,), 3),), (4,), (), ("endless", ((3,), 1), (1,)))
        self.asked((((1, 0), 3), ((0, 1), 2)), (0, 4), (), ("endless", ((3, 2), 1), (0, 1)))

    def test_a_step_to_a_missed_row(self):
        # x from 0, 2 x at least 3: (A) lets the least row go.
        self.asked((((1,), 0), ((2,), 3)), (-5,), ((0, 1),), ("best", ((3,), 2), ((1, 5),), 2))
        self.asked((((1,), 0), ((2,), 3)), (5,), ((0, 1),), ("endless", ((3,), 2), (1,)))

    def test_a_step_to_more_worth(self):
        # x from 0, 2 x at most 7: (B) goes up to the most.
        self.asked((((1,), 0), ((-2,), -7)), (3,), ((0, 1),), ("best", ((7,), 2), ((1, 3),), 2))

    def test_none(self):
        # x from 4, x at most 3.
        self.asked((((1,), 4), ((-1,), -3)), (1,), (), ("none", ((0, 1), (1, 1))))
        # x from 0, 2 x at least 3, 4 x at most 5.
        self.asked((((1,), 0), ((2,), 3), ((-4,), -5)), (0,), ((0, 1),), ("none", ((1, 2), (2, 1))))

    def test_a_row_of_noughts(self):
        self.asked((((1,), 0), ((0,), 1)), (1,), (), ("none", ((1, 1),)))
        self.asked((((1,), 0), ((0,), 0)), (1,), (), ("endless", ((0,), 1), (1,)))
        # The missed row of the least number comes first, also where a later one could be met by nothing.
        self.asked((((1,), 0), ((1,), 2), ((0,), 7)), (1,), ((0, 1),), ("none", ((2, 1),)))

    def test_of_missed_rows_the_least_number_is_held(self):
        rows = (((1, 0), 0), ((0, 1), 0), ((1, 1), 2), ((1, 1), 5))
        self.asked(rows, (-1, -1), ((0, 2), (2, 3)), ("best", ((5, 0), 1), ((3, 1),), 1))

    def test_of_raisers_the_least_number_is_let_go(self):
        rows = (((1, 0, 0), 0), ((0, 1, 0), 0), ((0, 0, 1), 0), ((-1, 1, 1), 1))
        self.asked(rows, (-1, -1, -1), ((1, 3),), ("best", ((0, 1, 0), 1), ((0, 2), (3, 1)), 1))

    def test_of_growing_ways_the_least_number_is_let_go(self):
        # The worth grows more along y, but x has the least number.
        rows = (((1, 0), 0), ((0, 1), 0), ((-1, 0), -2), ((0, -1), -2))
        self.asked(rows, (1, 5), ((0, 2), (1, 3)), ("best", ((2, 2), 1), ((2, 1), (3, 5)), 1))

    def test_of_rows_met_first_the_least_number_is_held(self):
        # Three rows with the same entries, two with the same bound.
        rows = (((1,), 0), ((-1,), -9), ((-1,), -4), ((-1,), -4))
        self.asked(rows, (1,), ((0, 2),), ("best", ((4,), 1), ((2, 1),), 1))
        # The same row in other sizes is met at the same time.
        rows = (((1,), 0), ((-3,), -12), ((-1,), -4))
        self.asked(rows, (1,), ((0, 1),), ("best", ((4,), 1), ((1, 1),), 3))

    def test_a_row_that_is_met_evenly_already_stops_at_once(self):
        # x at most y stops x at the corner (0, 0); then both go up along it.
        rows = (((1, 0), 0), ((0, 1), 0), ((-1, 1), 0), ((-1, -1), -6))
        self.asked(rows, (1, 0), ((0, 2), (1, 3)), ("best", ((3, 3), 1), ((2, 1), (3, 1)), 2))

    def test_steps_of_both_kinds(self):
        # x + 2 y at least 3 is missed; then x goes up to x at most 5, then y without end.
        rows = givens((((0, 5), (0, None)), (((1, 2), 3),), (1, 1)))
        self.asked(rows, (1, 1), ((0, 3), (3, 2)), ("endless", ((5, 0), 1), (0, 1)))

    def test_the_ray_is_in_lowest_terms(self):
        # The way is that of the let go least row along the edge of the third row.
        rows = (((1, 0), 0), ((0, 1), 0), ((-2, 4), 0))
        self.asked(rows, (1, 0), ((0, 2),), ("endless", ((0, 0), 1), (2, 1)))
        rows = (((1, 0), 0), ((0, 1), 0), ((-6, 4), -1))
        self.asked(rows, (1, 0), ((0, 2),), ("endless", ((1, 0), 6), (2, 3)))


class MadeUpTest(unittest.TestCase):
    def setUp(self):
        chance = maker(31)
        self.cases = [made_case(chance) for _ in range(1500)]

    def test_each_walk_is_the_one_told(self):
        endings = {}
        for rows, goal in self.cases:
            steps, ending = oracle.walked(rows, goal)
            self.assertTrue(same(trail(rows, goal), steps), (rows, goal))
            self.assertTrue(same(first(rows, goal), ending), (rows, goal))
            endings[ending[0]] = endings.get(ending[0], 0) + 1
        self.assertTrue(all(endings[word] > 100 for word in ("none", "endless", "best")), endings)

    def test_each_ending_is_true(self):
        for rows, goal in self.cases:
            told = first(rows, goal)
            self.assertTrue(is_plain(told))
            self.assertTrue(oracle.ending_holds(rows, goal, told), (rows, goal, told))

    def test_order_and_lowest_terms(self):
        for rows, goal in self.cases:
            told = first(rows, goal)
            if told[0] == "endless":
                self.assertEqual(math.gcd(*told[2]), 1)
            else:
                shares = told[-1] if told[0] == "none" else told[2]
                over = told[3:]
                self.assertEqual([k for k, _ in shares], sorted({k for k, _ in shares}))
                self.assertTrue(all(weight >= 1 for _, weight in shares))
                self.assertEqual(math.gcd(*(weight for _, weight in shares), *over), 1)
            if told[0] != "none":
                self.assertEqual(math.gcd(told[1][1], *told[1][0]), 1)
                self.assertGreaterEqual(told[1][1], 1)

    def test_the_same_rows_are_never_held_twice(self):
        longest = 0
        for rows, goal in self.cases:
            held = frozenset(range(len(goal)))
            came = {held}
            for gone, taken in trail(rows, goal):
                self.assertIn(gone, held)
                self.assertNotIn(taken, held)
                held = held - {gone} | {taken}
                self.assertNotIn(held, came)
                came.add(held)
            longest = max(longest, len(came))
        self.assertGreater(longest, 6)

    def test_asked_again_it_is_the_same(self):
        told = [(trail(rows, goal), first(rows, goal)) for rows, goal in self.cases[:50]]
        again = [(trail(rows, goal), first(rows, goal)) for rows, goal in reversed(self.cases[:50])]
        self.assertEqual(told, again[::-1])


class GreatTest(unittest.TestCase):
    def test_eighty_rows_of_eight_unknowns(self):
        chance = maker(32)
        for size in (3, 10 ** 200 - 1):
            endings = set()
            for turn in range(6):
                rows = tuple(least_row(8, k, chance.randint(-size, size)) for k in range(8))
                inside = tuple(row[1] + chance.randint(0, size) for row in rows)
                for _ in range(72):
                    entries = numbers(chance, 8, size)
                    total = sum(e * x for e, x in zip(entries, inside))
                    slack = chance.randint(0, size) * size
                    # Now and then a row that cuts off what the others leave.
                    rows += ((entries, total - slack if turn < 4 else total + slack),)
                goal = numbers(chance, 8, size)
                told = first(rows, goal)
                endings.add(told[0])
                self.assertTrue(is_plain(told))
                self.assertTrue(oracle.ending_holds(rows, goal, told))
            self.assertIn("none", endings)
            self.assertIn("best", endings)

    def test_great_numbers_walk_as_told(self):
        chance = maker(33)
        for _ in range(15):
            rows = made_givens(chance, 3, 6, 10 ** 200 - 1)
            goal = numbers(chance, 3, 10 ** 200 - 1)
            self.assertTrue(same((trail(rows, goal), first(rows, goal)), oracle.walked(rows, goal)))


if __name__ == "__main__":
    unittest.main()
