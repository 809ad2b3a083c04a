import itertools
import unittest
from unittest import mock

from aids import dot, is_plain, maker, meets_all, numbers, same
from cutyard.climbs import Climb, raised_side, raised_stand
from cutyard.first import Stand, beginning, first, walk
from cutyard.looker import bars, holds
from cutyard.plans import givens
from cutyard.search import tied_basis
from cutyard.settle import settled
from cutyard.shapes import Shape, fitted_shape
from cutyard.sides import Side, walk_side
from cutyard.strikes import Struck
from papers import slow_bars

GREAT = 10 ** 199


def even(entries, bound):
    """The two rows that ask the sum to be just the bound."""
    return between(entries, bound, bound)


def between(entries, low, high):
    return ((tuple(entries), low), (tuple(-a for a in entries), -high))


def spots_of(plan):
    """All spots within the bounds of a plan whose unknowns all have a most."""
    return itertools.product(*[range(least, most + 1) for least, most in plan[0]])


def tried(plan):
    """(word, worth) by trying all spots."""
    worths = [dot(plan[2], spot) for spot in spots_of(plan) if meets_all(givens(plan), spot)]
    return ("best", max(worths)) if worths else ("none", None)


class SettledCase(unittest.TestCase):
    def right(self, plan, word=None, worth=None):
        """What is told is true, as [33] tells it; (word, worth), worth None unless it is best."""
        told = settled(plan)
        rows = givens(plan)
        n = len(plan[2])
        self.assertTrue(is_plain(told))
        self.assertIs(holds(plan, told), True, plan)
        if told[0] == "none":
            self.assertEqual(len(told), 2)
            self.assertIs(bars(rows, told[1]), True)
            summary = ("none", None)
        else:
            self.assertEqual(len(told), 3)
            self.assertEqual(len(told[1]), n)
            self.assertTrue(meets_all(rows, told[1]))
            summary = (told[0], None)
        if told[0] == "best":
            summary = ("best", dot(plan[2], told[1]))
            self.assertIs(bars(rows + ((plan[2], summary[1] + 1),), told[2]), True)
        elif told[0] == "endless":
            self.assertEqual(len(told[2]), n)
            self.assertTrue(all(dot(entries, told[2]) >= 0 for entries, bound in rows))
            self.assertGreater(dot(plan[2], told[2]), 0)
        if word is not None:
            self.assertEqual(summary[0], word, plan)
        if worth is not None:
            self.assertEqual(summary[1], worth, plan)
        return summary


class ByHandTest(SettledCase):
    def test_no_unknowns(self):
        self.right(((), (), ()), "best", 0)
        self.right(((), (((), 0), ((), -3)), ()), "best", 0)
        self.right(((), (((), -1), ((), 1)), ()), "none")

    def test_no_rows(self):
        self.right((((0, 3), (-2, 5)), (), (2, -3)), "best", 12)
        self.right((((0, None), (-2, 5)), (), (-2, 3)), "best", 15)
        self.right((((0, None), (-2, 5)), (), (2, 3)), "endless")
        self.right((((0, 3), (4, 3)), (), (2, 3)), "none")

    def test_one_unknown(self):
        self.right((((0, 9),), (((-3,), -10),), (1,)), "best", 3)
        self.right((((0, 9),), (((3,), 10),), (-1,)), "best", -4)
        self.right((((0, None),), (((3,), 10),), (1,)), "endless")
        self.right((((0, None),), (((3,), 10), ((-3,), -11)), (1,)), "none")
        self.right((((7, 7),), (), (5,)), "best", 35)

    def test_a_goal_of_noughts(self):
        self.right((((0, 4), (0, None)), (((1, 1), 3),), (0, 0)), "best", 0)
        self.right((((0, None), (0, None)), even((2, -2), 1), (0, 0)), "none")
        self.right((((0, None),) * 3, (), (0, 0, 0)), "best", 0)

    def test_leasts_above_mosts(self):
        self.right((((4, 3),), (), (1,)), "none")
        self.right((((0, None), (4, 3)), (), (1, 0)), "none")
        self.right((((0, None), (GREAT, -GREAT)), (((1, 0), 3),), (1, 1)), "none")

    def test_none_in_whole_numbers_but_in_fractions(self):
        for goal in ((1, 0), (0, 0), (-3, 5)):
            plan = (((0, None), (0, None)), even((2, -2), 1), goal)
            self.assertNotEqual(first(givens(plan), goal)[0], "none")
            self.right(plan, "none")
            plan = (((0, 50), (0, 50)), even((6, 10), 71), goal)
            self.assertNotEqual(first(givens(plan), goal)[0], "none")
            self.right(plan, "none")

    def test_would_grow_without_end_but_has_no_answer(self):
        plan = (((0, None), (0, None)), even((2, -2), 1), (1, 1))
        self.assertEqual(first(givens(plan), plan[2])[0], "endless")
        self.right(plan, "none")
        self.right((((0, None), (0, None)), even((2, -2), 2), (1, 1)), "endless")
        self.right((((0, None), (0, None)), even((2, -2), 2), (1, -1)), "best", 1)
        plan = (((0, None),) * 3, even((3, -3, 0), 2), (0, 0, 1))
        self.assertEqual(first(givens(plan), plan[2])[0], "endless")
        self.right(plan, "none")

    def test_best_below_the_first_answer(self):
        plan = (((0, 3), (0, None)), (((-1, -2), -7),), (1, 3))
        self.right(plan, "best", 10)
        self.assertEqual(settled(plan)[1], (1, 3))
        # Far from the best point: 3 x - 3 y is at most 2.
        self.right((((0, 40), (0, 40)), (((-3, 3), -2),), (1, -1)), "best", 0)
        self.right((((0, None), (0, 0)), (((-5, 3), -14),), (7, -1)), "best", 14)
        # x + y + z is even, and each of two of them less than a most.
        self.right((((0, 1),) * 4, (((-2, -2, -2, -2), -3),), (1, 1, 1, 1)), "best", 1)

    def test_goals_with_a_common(self):
        # The worths are multiples of 1000, those of the points aren't.
        self.right((((0, None), (0, None)), (((-2, -2), -7),), (1000, 1000)), "best", 3000)
        self.right((((0, None), (0, None)), (((-6, -10), -7 * GREAT),), (6 * GREAT, 10 * GREAT)), "best",
                   GREAT * (7 * GREAT // 2 * 2))

    def test_equations(self):
        self.right((((0, None), (0, None)), even((3, 5), 47), (1, 1)), "best", 15)
        self.right((((0, None), (0, None)), even((3, 5), 47), (-1, -1)), "best", -11)
        self.right((((0, None), (0, None)), even((3, 5), 7), (1, 1)), "none")
        self.right((((0, None),) * 3, even((1, 1, 1), 10) + even((1, 2, 5), 21), (0, 1, 1)), "best", 8)
        self.right((((0, None),) * 3, even((1, 1, 1), 10) + even((1, 2, 5), 51), (0, 1, 1)), "none")
        # One of the equations can be met, the other can't.
        self.right((((0, None),) * 4, even((1, -1, 0, 0), 3) + even((0, 0, 4, -6), 5), (1, 0, 0, 0)), "none")
        self.right((((-GREAT, None),) * 2, even((2, 4), 8) + even((3, -3), 1), (0, 0)), "none")

    def test_coins(self):
        # Hard for choices by single unknowns.
        coins = (12223, 12224, 36674, 61119, 85569)
        rows = even(coins, 89643481)
        self.right((((0, None),) * 5, rows, (1, 1, 1, 1, 1)), "none")
        self.right((((0, None),) * 5, ((tuple(-a for a in coins), -89643481),), coins), "best", 89643480)

    def test_asked_again_it_is_the_same(self):
        plan = (((0, 30),) * 3, even((6, 10, 15), 171), (1, 2, 3))
        told = settled(plan)
        settled((((0, None),), (), (1,)))
        self.assertTrue(same(settled(plan), told))


class ThinTest(SettledCase):
    """Thin and askew plans, as [32] speaks of them."""

    def test_two_rows_that_lie_close(self):
        for m in (7, 123456789012, 999999999999, 500000000001):
            for low, high in ((1, 2), (-3, -1), (0, 0), (5, 9)):
                # (m + 1) x - m y = t: one y for each x, as the two have nothing in common.
                for goal in ((1, 0), (1, -1), (-1, -1), (m, 3), (0, 0)):
                    rows = between((m + 1, -m), low, high)
                    self.right((((0, None), (0, None)), rows, goal))
                    self.right((((0, 10 * m), (0, 10 * m)), rows, goal))
                self.right((((0, 10 * m), (0, 20 * m)), rows, (-1, 0)), "best", self.least_x(m, low, high))
            # A multiple of 3 between two that leave none out.
            rows = between((3 * m + 3, -3 * m), 1, 2)
            self.right((((0, None), (0, None)), rows, (1, 1)), "none")
            self.right((((-m, m), (-m, m)), rows, (1, 1)), "none")

    def least_x(self, m, low, high):
        """Minus the least x from 0 on with (m + 1) x - m y from low to high for some y from 0 on."""
        # x = t modulo m; y is from 0 on where (m + 1) x is at least t.
        return -min(t % m if (m + 1) * (t % m) >= t else t % m + m for t in range(low, high + 1))

    def test_forms_without_mosts(self):
        for low, high, best in ((1, 4, 4), (-3, 11, 11), (6, 6, 6)):
            rows = between((1, -5), low, high)
            self.right((((0, None), (0, None)), rows, (1, -5)), "best", best)
            self.right((((0, None), (0, None)), rows, (-1, 5)), "best", -low)
            self.right((((0, None), (0, None)), rows, (1, -4)), "endless")
            self.right((((0, None), (0, None)), rows, (-1, 4)), "best")
        # x - 5 y is 5 times another, between bounds that leave no room.
        rows = between((1, -5, 0), 1, 4) + even((1, 0, -5), 0)
        self.right((((0, None),) * 3, rows, (1, 1, 1)), "none")
        rows = between((1, -5, 0), 1, 5) + even((1, 0, -5), 0)
        self.right((((0, None),) * 3, rows, (1, 1, 1)), "endless")
        self.right((((0, None),) * 3, rows, (0, -1, 1)), "best", 1)
        # A chain of such forms.
        rows = between((1, -5, 0, 0), 2, 3) + between((0, 1, -5, 0), 2, 3) + between((0, 0, 1, -5), 2, 3)
        self.right((((0, None),) * 4, rows, (1, -125, 0, 0)), "best")
        self.right((((0, None),) * 4, rows, (1, -5, -5, 25)), "best")
        self.right((((0, None),) * 4, rows, (-1, -1, -1, -1)), "best", -(2 + 12 + 62 + 0))

    def test_worths_that_hang_on_a_form(self):
        # z is at most far times a form and at most far less far times it: 0 where it is whole, else up to far / 2.
        for form in ((1, -1), (1, -5), (7, -4)):
            for far in (4, 5, 10 ** 6, GREAT):
                rows = ((tuple(far * a for a in form) + (-1,), 0), (tuple(-far * a for a in form) + (-1,), -far))
                for most in (None, 10 ** 9):
                    plan = (((0, most), (0, most), (0, None)), rows, (0, 0, 1))
                    self.assertGreater(dot(plan[2], first(givens(plan), plan[2])[1][0]), 0)
                    self.right(plan, "best", 0)

    def test_thin_plans_of_more_unknowns(self):
        chance = maker(311)
        words = set()
        for n in (3, 5, 8):
            for size in (10 ** 3, 10 ** 12):
                spot = tuple(chance.randint(0, 99) for _ in range(n))
                rows = ()
                for _ in range(2):
                    entries = numbers(chance, n, size)
                    low = dot(entries, spot) + chance.randint(0, 1)
                    rows += between(entries, low, low + 3)
                words.add(self.right((((0, 99),) * n, rows, numbers(chance, n, 9)))[0])
                words.add(self.right((((0, None),) * n, rows, tuple(-abs(a) for a in numbers(chance, n, 9))))[0])
        self.assertEqual(words, {"best", "none"})


def made_bounds(chance, size, boxed):
    least = chance.randint(-size, size)
    return (least, least + chance.randint(-1 if chance.random() < 0.05 else 0, 4) if boxed else None)


def made_plan(chance, boxed=None):
    """A plan of up to four unknowns, with equations and rows that leave little room."""
    n = chance.randint(0, 4)
    size = chance.choice((2, 3, 7))
    bounds = tuple(made_bounds(chance, size, chance.random() < 0.5 if boxed is None else boxed) for _ in range(n))
    spot = tuple(least + chance.randint(0, 2) for least, most in bounds)
    rows = ()
    for _ in range(chance.randint(0, 3)):
        entries = numbers(chance, n, size)
        rows += ((entries, dot(entries, spot) - chance.randint(-1, 6)),)
    for _ in range(chance.randint(0, 2)):
        factor = chance.choice((1, 1, 2, 3))
        entries = tuple(factor * a for a in numbers(chance, n, size))
        low = dot(entries, spot) + chance.choice((0, 0, 0, 1))
        rows += between(entries, low, low + chance.choice((0, 1, 4)))
    return (bounds, rows, numbers(chance, n, size))


def counted(words):
    return {word: words.count(word) for word in words}


class MadeUpTest(SettledCase):
    def setUp(self):
        chance = maker(300)
        self.plans = [made_plan(chance) for _ in range(700)]

    def test_each_is_true(self):
        words = counted([self.right(plan)[0] for plan in self.plans])
        self.assertEqual(set(words), {"best", "none", "endless"})
        self.assertGreater(min(words.values()), 50, words)

    def test_against_all_spots(self):
        chance = maker(301)
        words = []
        lifted = 0
        for _ in range(500):
            plan = made_plan(chance, boxed=True)
            word, worth = tried(plan)
            words.append(self.right(plan, word, worth)[0])
            ending = first(givens(plan), plan[2])
            lifted += word == "best" and ending[1][1] > 1
        self.assertGreater(min(counted(words).values()), 80)
        self.assertGreater(lifted, 40)

    def test_papers_by_another_looker(self):
        for plan in self.plans[:200]:
            told = settled(plan)
            rows = givens(plan)
            if told[0] == "best":
                rows += ((plan[2], dot(plan[2], told[1]) + 1),)
            if told[0] != "endless":
                self.assertTrue(slow_bars(rows, told[-1]))

    def test_another_order(self):
        chance = maker(302)
        for bounds, rows, goal in self.plans[:250]:
            summary = self.right((bounds, rows, goal))
            mixed = list(rows)
            chance.shuffle(mixed)
            self.assertEqual(self.right((bounds, tuple(mixed), goal)), summary)
            order = list(range(len(goal)))
            chance.shuffle(order)
            mixed = tuple((tuple(entries[k] for k in order), bound) for entries, bound in mixed)
            plan = (tuple(bounds[k] for k in order), mixed, tuple(goal[k] for k in order))
            self.assertEqual(self.right(plan), summary)

    def test_rows_times_a_number(self):
        chance = maker(303)
        for bounds, rows, goal in self.plans[:250]:
            summary = self.right((bounds, rows, goal))
            factors = [chance.choice((1, 2, 5, 12, GREAT)) for _ in rows]
            wide = tuple((tuple(k * a for a in entries), k * bound) for k, (entries, bound) in zip(factors, rows))
            self.assertEqual(self.right((bounds, wide, goal)), summary)

    def test_moved_far_from_0(self):
        chance = maker(304)
        for bounds, rows, goal in self.plans[:250]:
            word, worth = self.right((bounds, rows, goal))
            by = numbers(chance, len(goal), chance.choice((50, GREAT)))
            moved = (tuple((least + step, None if most is None else most + step)
                           for (least, most), step in zip(bounds, by)),
                     tuple((entries, bound + dot(entries, by)) for entries, bound in rows), goal)
            self.assertEqual(self.right(moved), (word, None if worth is None else worth + dot(goal, by)))

    def test_two_plans_side_by_side(self):
        for one, other in zip(self.plans[:150], self.plans[150:300]):
            n, m = len(one[2]), len(other[2])
            rows = tuple((entries + (0,) * m, bound) for entries, bound in one[1])
            rows += tuple(((0,) * n + entries, bound) for entries, bound in other[1])
            told = self.right((one[0] + other[0], rows, one[2] + other[2]))
            parts = (self.right(one), self.right(other))
            words = [part[0] for part in parts]
            if "none" in words:
                self.assertEqual(told[0], "none")
            elif "endless" in words:
                self.assertEqual(told[0], "endless")
            else:
                self.assertEqual(told, ("best", parts[0][1] + parts[1][1]))

    def test_struck_out_ahead(self):
        words = []
        for plan in self.plans[:400]:
            summary = self.right(plan)
            struck = Struck(plan)
            words.append((struck.kind, summary[0]))
            if struck.kind == "none":
                self.assertEqual(summary[0], "none")
                continue
            told = settled(struck.slim)
            self.assertEqual(told[0], summary[0])
            if told[0] == "none":
                back = ("none", struck.paper_back(told[1], False))
            elif told[0] == "endless":
                back = ("endless", struck.point_back(told[1]), struck.ray_back(told[2]))
            else:
                back = ("best", struck.point_back(told[1]), struck.paper_back(told[2], True))
                self.assertEqual(summary[1], dot(struck.slim[2], told[1]) + struck.extra)
            self.assertIs(holds(plan, back), True)
        self.assertEqual(len(set(words)), 4, counted(words))


class GreatTest(SettledCase):
    def test_sacks_of_many_figures(self):
        chance = maker(320)
        for n in (2, 5, 8):
            weights = tuple(chance.randint(GREAT // 9, GREAT) for _ in range(n))
            room = 7 * sum(weights) // 3
            for goal in (weights, tuple(a + GREAT // 10 for a in weights), numbers(chance, n, GREAT)):
                for most in (1, 20, None):
                    self.right((((0, most),) * n, ((tuple(-a for a in weights), -room),), goal), "best")

    def test_sacks_against_all_spots(self):
        chance = maker(321)
        for n in (3, 6):
            weights = tuple(chance.randint(GREAT // 9, GREAT) for _ in range(n))
            plan = (((0, 2),) * n, ((tuple(-a for a in weights), -sum(weights)),), numbers(chance, n, GREAT))
            self.right(plan, *tried(plan))

    def test_equations_of_many_figures(self):
        chance = maker(322)
        words = set()
        for n, many in ((3, 1), (5, 2), (8, 3)):
            for off in (0, 1):
                spot = tuple(chance.randint(0, 99) for _ in range(n))
                rows = ()
                for _ in range(many):
                    entries = tuple(chance.randint(1, GREAT) for _ in range(n))
                    rows += even(entries, dot(entries, spot) + off)
                words.add(self.right((((0, None),) * n, rows, numbers(chance, n, GREAT)))[0])
        self.assertEqual(words, {"best", "none"})

    def test_eight_unknowns_and_twelve_rows(self):
        chance = maker(323)
        words = []
        for size in (3, 20, 10 ** 6, 10 ** 20):
            for most in (1, 9, 10 ** 9, None):
                spot = tuple(chance.randint(0, most or 9) for _ in range(8))
                rows = ()
                for _ in range(12):
                    entries = numbers(chance, 8, size)
                    rows += ((entries, dot(entries, spot) - chance.randint(0, size)),)
                words.append(self.right((((0, most),) * 8, rows, numbers(chance, 8, size)))[0])
        self.assertEqual(set(words), {"best", "endless"})

    def test_endless_of_many_figures(self):
        rows = between((GREAT, 1 - GREAT), 1, 1)
        self.right((((1, None), (1, None)), rows, (1, 1)), "endless")
        self.right((((1, None), (1, None)), rows, (-1, -1)), "best", -2)
        self.right((((2, None), (2, None)), rows, (-1, -1)), "best", -(2 * GREAT + 1))


class PartsTest(SettledCase):
    """What the climb is made of."""

    def test_raised_rows_take_their_corners_along(self):
        chance = maker(330)
        held = 0
        for _ in range(100):
            plan = made_plan(chance, boxed=True)
            rows = givens(plan)
            stand = walk(rows, plan[2])[1]
            for number in range(len(rows)):
                side = raised_side(Side(rows, tuple(range(len(rows))), stand), number, rows[number][1] + 3)
                self.assertEqual(side.rows[number], (rows[number][0], rows[number][1] + 3))
                self.assertEqual(side.rows[:number] + side.rows[number + 1:], rows[:number] + rows[number + 1:])
                self.assertEqual((side.stand.held, side.stand.ways), (stand.held, stand.ways))
                for place in stand.held:
                    self.assertEqual(dot(side.rows[place][0], side.stand.tops),
                                     side.rows[place][1] * side.stand.bottom)
                held += number in stand.held
        self.assertGreater(held, 50)

    def test_raised_rows_are_looked_at_again(self):
        rows = (((1,), 0), ((-1,), -9), ((2,), 1))
        side = Side(rows, (0, 1), beginning(rows, 1))
        self.assertEqual(raised_side(side, 2, 5).numbers, (0, 1, 2))
        self.assertEqual(raised_side(side, 1, -5).numbers, (0, 1))
        self.assertIs(raised_side(side, 2, 1), side)
        stand = Stand((1,), ((-1,),), (9,), 1)
        self.assertIs(raised_stand(stand, 0, 4), stand)
        self.assertEqual(raised_stand(stand, 1, 4).tops, (5,))

    def climb(self, plan, spot):
        return Climb(givens(plan), plan[2], spot)

    def test_the_better_row_evened(self):
        plan = (((0, None), (0, None)), (((-2, -2), -7),), (10, 10))
        climb = self.climb(plan, (1, 0))
        self.assertEqual((climb.divisor, climb.bound), (10, 2))
        self.assertEqual(climb.side.rows[-2:], (((10, 10), 11), ((1, 1), 2)))
        # The better row itself isn't looked at.
        self.assertEqual(climb.side.numbers, (0, 1, 2, 4))
        climb.take((0, 3))
        self.assertEqual((climb.spot, climb.bound), ((0, 3), 4))
        self.assertEqual(climb.raised(climb.side).rows[-1], ((1, 1), 4))

    def test_what_is_better(self):
        plan = (((0, 5), (0, None)), (((-2, -2), -7),), (10, 10))
        climb = self.climb(plan, (1, 0))
        self.assertEqual([climb.is_better(spot) for spot in ((1, 0), (1, 1), (-1, 3), (3, 1), (0, 3))],
                         [False, True, False, False, True])
        climb.take((0, 3))
        self.assertEqual([climb.is_better(spot) for spot in ((1, 1), (3, 0), (0, 4))], [False, False, False])

    def test_rising_between_middle_and_corner(self):
        far = 10 ** 60
        plan = (((0, far), (0, far)), (((-7, -3), -5 * far),), (3, 1))
        climb = self.climb(plan, (0, 0))
        stand, ending = walk_side(climb.side, plan[2])
        shape = fitted_shape(climb.side, climb.basis)
        self.assertTrue(climb.rise(shape, ending[1]))
        self.assertTrue(meets_all(givens(plan), climb.spot))
        # So near to the best corner that its worth and the corner's hardly differ.
        tops, bottom = ending[1]
        self.assertLess(dot(plan[2], tops) - bottom * dot(plan[2], climb.spot), 100 * bottom)

    def test_choices_by_forms_alone(self):
        plan = (((0, 40), (0, 40)), (((-3, 3), -2),), (1, -1))
        climb = self.climb(plan, (0, 40))
        self.assertIsNone(climb.barred_by_forms(climb.side, climb.basis, 0))
        lines = climb.barred_by_forms(climb.side, climb.basis, -1)
        worth = dot(plan[2], climb.spot)
        self.assertEqual(worth, 0)
        paper = (("cut", ((len(givens(plan)), 1),), 1),) + tuple(lines)
        self.assertIs(bars(givens(plan) + ((plan[2], 1),), paper), True)

    def test_a_shape_for_each_choice(self):
        chance = maker(331)
        words = []
        for few in (0, 1, 2, 4):
            with mock.patch("cutyard.climbs.FEW_CHOICES", few):
                for _ in range(100):
                    plan = made_plan(chance, boxed=True)
                    words.append(self.right(plan, *tried(plan))[0])
        self.assertGreater(min(counted(words).values()), 50)

    def test_behind_many_shapes_the_forms_stay(self):
        chance = maker(332)
        with mock.patch("cutyard.climbs.MOST_SHAPES", 0), mock.patch("cutyard.climbs.fitted_shape", None):
            for _ in range(60):
                plan = made_plan(chance, boxed=True)
                self.right(plan, *tried(plan))
        with mock.patch("cutyard.climbs.FEW_CHOICES", 0), mock.patch("cutyard.climbs.MOST_SHAPES", 1):
            for _ in range(60):
                plan = made_plan(chance, boxed=True)
                self.right(plan, *tried(plan))

    def test_shapes_within_shapes_are_counted(self):
        rows = (((-12, -17, -23, -31, -7), -1001), ((-5, 3, -7, 2, 9), -40), ((3, -8, 1, -5, 2), -60))
        plan = (((0, 50),) * 5, rows, (11, 18, 25, 30, 9))
        halve = Shape.halving_choice
        counts = []
        for most in (100, 1):
            halved = []
            with mock.patch("cutyard.climbs.FEW_CHOICES", 0), mock.patch("cutyard.climbs.MOST_SHAPES", most), \
                    mock.patch.object(Shape, "halving_choice", lambda shape: halved.append(shape) or halve(shape)):
                self.right(plan, "best")
            counts.append(len(halved))
        self.assertGreater(counts[0], 1)
        self.assertEqual(counts[1], 1)

    def test_spots_between_a_point_and_the_middle(self):
        rows = givens((((0, 1000), (0, 1000)), (), (0, 0)))
        shape = fitted_shape(Side(rows, (0, 1, 2, 3), beginning(rows, 2)), tied_basis(rows, (0, 1, 2, 3)))
        middle = shape.middle_spot()
        self.assertTrue(all(200 < number < 800 for number in middle))
        self.assertEqual(shape.spot_near(((0, 0), 1), 1), middle)
        self.assertEqual(shape.spot_near(((7, 9), 3), 1), middle)
        half = shape.spot_near(((1000, 0), 1), 2)
        self.assertTrue(all(abs(2 * number - there - end) <= 2 for number, there, end in zip(half, middle, (1000, 0))))
        self.assertEqual(shape.spot_near(((2100, 3), 3), 10 ** 9), (700, 1))

    def test_the_climb_is_not_step_by_step(self):
        # Between the spot found and the best one lie 10 ** 90 worths.
        far = 10 ** 90
        plan = (((0, far),) * 3, (((-7, -3, -5), -5 * far), ((4, -9, 1), -far)), (3, 1, 2))
        raised = []
        take = Climb.take
        with mock.patch.object(Climb, "take", lambda climb, spot: raised.append(spot) or take(climb, spot)):
            self.right(plan, "best")
        self.assertLess(len(raised), 600)


if __name__ == "__main__":
    unittest.main()
