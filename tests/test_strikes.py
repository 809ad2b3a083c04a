import itertools
import unittest

from aids import dot, is_plain, is_whole, maker, meets_all, numbers, same
from cutyard.cuts import rounds
from cutyard.first import first
from cutyard.looker import bars, line_row
from cutyard.plans import better, givens, worth
from cutyard.strikes import Struck
from papers import made_paper, slow_bars
from rulebook import speaking

GREAT = 10 ** 199

# No rule speaks to it: 2 x + 3 y at least 4, 3 x + 2 y at most 14.
CALM = (((0, 5), (0, 5)), (((2, 3), 4), ((-3, -2), -14)), (1, 1))


def calm_with(row):
    return (CALM[0], CALM[1] + (row,), CALM[2])


def calm_and(bounds, entries, number):
    """The calm plan with one unknown more, behind the others."""
    rows = tuple((row[0] + (entry,), row[1]) for row, entry in zip(CALM[1], entries))
    return (CALM[0] + (bounds,), rows, CALM[2] + (number,))


class StruckCase(unittest.TestCase):
    def right_fields(self, plan, struck):
        """[25], [26]: the fields of each kind."""
        self.assertTrue(is_whole(struck.extra))
        if struck.kind == "none":
            self.assertTrue(is_plain(struck.paper))
            self.assertIs(bars(givens(plan), struck.paper), True)
            self.assertTrue(slow_bars(givens(plan), struck.paper))
            self.assertIsNone(struck.slim)
            self.assertTrue(same((struck.kept, struck.extra), ((), 0)))
            return
        self.assertEqual(struck.kind, "slim")
        self.assertIsNone(struck.paper)
        self.assertTrue(is_plain(struck.slim) and is_plain(struck.kept))
        bounds, rows, goal = struck.slim
        self.assertEqual(len(bounds), len(struck.kept))
        self.assertEqual(len(goal), len(struck.kept))
        self.assertTrue(all(len(row[0]) == len(goal) for row in rows))
        self.assertEqual(list(struck.kept), sorted(set(struck.kept)))
        self.assertTrue(all(0 <= k < len(plan[0]) for k in struck.kept))
        self.assertEqual(speaking(struck.slim), set(), plan)

    def struck(self, plan):
        told = Struck(plan)
        self.right_fields(plan, told)
        return told

    def right_point(self, plan, struck, spot):
        back = struck.point_back(spot)
        self.assertTrue(is_plain(back) and len(back) == len(plan[0]))
        self.assertTrue(meets_all(givens(plan), back), (plan, spot, back))
        self.assertTrue(same(tuple(back[k] for k in struck.kept), spot))
        self.assertEqual(worth(plan, back), worth(struck.slim, spot) + struck.extra)
        return back

    def right_ray(self, plan, struck, ray):
        back = struck.ray_back(ray)
        self.assertTrue(is_plain(back) and len(back) == len(plan[0]))
        self.assertTrue(all(dot(row[0], back) >= 0 for row in givens(plan)), (plan, ray, back))
        self.assertTrue(same(tuple(back[k] for k in struck.kept), ray))
        self.assertEqual(dot(plan[2], back), dot(struck.slim[2], ray))
        return back

    def right_paper(self, plan, struck, paper, w):
        """The paper for the slim plan leads to a right one; w is a worth, or None without a better row."""
        slim_rows = givens(struck.slim)
        rows = givens(plan)
        if w is not None:
            slim_rows += (better(struck.slim, w),)
            rows += (better(plan, w + struck.extra),)
        self.assertTrue(slow_bars(slim_rows, paper))
        back = struck.paper_back(paper, w is not None)
        self.assertTrue(is_plain(back))
        self.assertIs(bars(rows, back), True, (plan, paper, w))
        self.assertTrue(slow_bars(rows, back))


class OneRuleTest(StruckCase):
    """Each rule alone, on a plan to which only it speaks."""

    def only(self, rule, plan):
        self.assertEqual(speaking(plan), {rule})
        return self.struck(plan)

    def slim_is(self, told, slim, kept, extra):
        self.assertEqual(told.kind, "slim")
        self.assertTrue(same((told.slim, told.kept, told.extra), (slim, kept, extra)), told.slim)

    def test_none_speaks(self):
        self.assertEqual(speaking(CALM), set())
        self.slim_is(self.struck(CALM), CALM, (0, 1), 0)
        self.assertEqual(Struck(CALM).point_back((2, 1)), (2, 1))
        paper = made_paper(givens(CALM) + (better(CALM, 8),), 2)
        self.right_paper(CALM, Struck(CALM), paper, 8)

    def test_r0(self):
        plan = (((3, 2), (0, 5)), (((2, 3), 8), ((-3, -2), -14)), (1, 1))
        self.assertEqual(self.only("R0", plan).kind, "none")

    def test_r1(self):
        self.assertEqual(self.only("R1", calm_with(((1, -1), 6))).kind, "none")
        # An unknown without a most and with a number below 0 doesn't matter.
        plan = (CALM[0] + ((1, None),), tuple((row[0] + (1,), row[1]) for row in CALM[1]) + (((1, 1, -1), 10),), (1, 1, 1))
        self.assertEqual(self.only("R1", plan).kind, "none")

    def test_r1_just_met(self):
        self.assertEqual(Struck(calm_with(((1, -1), 5))).kind, "slim")
        self.assertEqual(speaking(calm_with(((1, -1), 5))), set())

    def test_r2(self):
        self.slim_is(self.only("R2", calm_with(((1, -1), -5))), CALM, (0, 1), 0)
        self.slim_is(self.struck(calm_with(((1, -1), -4))), calm_with(((1, -1), -4)), (0, 1), 0)
        self.slim_is(self.only("R2", calm_with(((0, 0), 0))), CALM, (0, 1), 0)
        self.slim_is(self.only("R2", calm_with(((0, 0), -3))), CALM, (0, 1), 0)
        self.assertEqual(self.only("R1", calm_with(((0, 0), 1))).kind, "none")

    def test_r3(self):
        for row, pair in ((((1, 0), 1), (1, 5)), (((-1, 0), -4), (0, 4))):
            told = self.only("R3", calm_with(row))
            self.slim_is(told, ((pair, (0, 5)),) + CALM[1:], (0, 1), 0)

    def test_r3_with_rounding(self):
        for row, pair in ((((3, 0), 1), (1, 5)), (((3, 0), 3), (1, 5)), (((-3, 0), -14), (0, 4)), (((-3, 0), -12), (0, 4))):
            self.assertEqual(speaking(calm_with(row)), {"R3", "R4"})
            self.slim_is(self.struck(calm_with(row)), ((pair, (0, 5)),) + CALM[1:], (0, 1), 0)

    def test_r3_gives_a_most(self):
        plan = (((-2, None), (0, 5)), (((2, 3), 4), ((-3, -2), -14), ((-2, 0), 3)), (1, 1))
        told = self.struck(plan)
        self.assertEqual(told.kind, "slim")
        # 2 x at most -3: x is -2, and goes; then y goes with its most.
        self.assertEqual(told.kept, ())
        self.assertEqual(told.extra, 3)
        self.assertEqual(told.point_back(()), (-2, 5))
        plan = (((-2, None), (0, 5)), (((2, 3), 4), ((-3, -2), -14), ((-2, 0), -9)), (1, 1))
        self.slim_is(self.struck(plan), (((-2, 4), (0, 5)), CALM[1], (1, 1)), (0, 1), 0)

    def test_r3_crosses(self):
        plan = (((0, None), (0, 5)), (((2, 3), 4), ((-3, -2), -14), ((-2, 0), 1)), (1, 1))
        self.assertNotIn("R0", speaking(plan))
        self.assertEqual(self.struck(plan).kind, "none")

    def test_r4(self):
        told = self.only("R4", (CALM[0], (CALM[1][0], ((-6, -4), -29)), CALM[2]))
        self.slim_is(told, CALM, (0, 1), 0)

    def test_r5(self):
        self.slim_is(self.only("R5", calm_with(((2, 3), 4))), CALM, (0, 1), 0)
        self.slim_is(self.only("R5", calm_with(((2, 3), 3))), CALM, (0, 1), 0)
        told = self.only("R5", calm_with(((2, 3), 7)))
        self.slim_is(told, (CALM[0], (CALM[1][1], ((2, 3), 7)), CALM[2]), (0, 1), 0)

    def test_r5_with_several(self):
        rows = (((2, 3), 4), ((2, 3), 6), ((-3, -2), -14), ((2, 3), 6), ((2, 3), 5))
        told = self.only("R5", (CALM[0], rows, CALM[2]))
        self.slim_is(told, (CALM[0], (rows[1], rows[2]), CALM[2]), (0, 1), 0)

    def test_r6(self):
        told = self.only("R6", calm_and((2, 2), (1, -1), 5))
        self.slim_is(told, (CALM[0], (((2, 3), 2), ((-3, -2), -12)), CALM[2]), (0, 1), 10)
        self.assertEqual(told.point_back((2, 1)), (2, 1, 2))
        told = self.only("R6", calm_and((-1, -1), (1, -1), -5))
        self.slim_is(told, (CALM[0], (((2, 3), 5), ((-3, -2), -15)), CALM[2]), (0, 1), 5)

    def test_r7(self):
        for number in (0, -2):
            told = self.only("R7", calm_and((1, 4), (-1, -2), number))
            self.slim_is(told, (CALM[0], (((2, 3), 5), ((-3, -2), -12)), CALM[2]), (0, 1), number)
            self.assertEqual(told.point_back((2, 1)), (2, 1, 1))
        told = self.only("R7", calm_and((1, None), (-1, -2), -1))
        self.assertEqual(told.kept, (0, 1))
        self.assertEqual(told.ray_back((0, 0)), (0, 0, 0))
        # An unknown that no row has, without a most.
        self.slim_is(self.struck(calm_and((1, None), (0, 0), 0)), CALM, (0, 1), 0)

    def test_r8(self):
        for number in (0, 2):
            told = self.only("R8", calm_and((-3, -1), (1, 2), number))
            self.slim_is(told, (CALM[0], (((2, 3), 5), ((-3, -2), -12)), CALM[2]), (0, 1), -number)
            self.assertEqual(told.point_back((2, 1)), (2, 1, -1))

    def test_r9(self):
        told = self.only("R9", calm_and((1, None), (3, 0), 0))
        # With the first row gone R7 and R8 speak to nothing: the goal is above 0, and a row is below.
        self.slim_is(told, (CALM[0], CALM[1][1:], CALM[2]), (0, 1), 0)
        # 2 x + 3 y + 3 z at least 4, z from 1.
        for spot, z in (((0, 0), 2), ((1, 0), 1), ((0, 1), 1), ((4, 1), 1)):
            self.assertEqual(told.point_back(spot), spot + (z,))

    def test_r9_with_several_rows(self):
        rows = (((2, 3, 3), 4), ((-3, -2, 0), -14), ((-1, -2, 2), 5), ((0, -1, 1), -3))
        plan = (CALM[0] + ((-2, None),), rows, (1, 1, 0))
        told = self.only("R9", plan)
        self.slim_is(told, (CALM[0], (((-3, -2), -14),), CALM[2]), (0, 1), 0)
        for x, y in itertools.product(range(5), repeat=2):
            if 3 * x + 2 * y <= 14:
                z = self.right_point(plan, told, (x, y))[2]
                self.assertFalse(z > -2 and meets_all(givens(plan), (x, y, z - 1)))

    def test_the_other_signs_do_not_speak(self):
        self.assertEqual(speaking(calm_and((1, 4), (-1, -2), 1)), set())
        self.assertEqual(Struck(calm_and((1, 4), (-1, -2), 1)).kept, (0, 1, 2))
        self.assertEqual(speaking(calm_and((1, 4), (1, 2), -1)), set())
        self.assertEqual(Struck(calm_and((1, 4), (1, 2), -1)).kept, (0, 1, 2))
        self.assertEqual(speaking(calm_and((1, None), (1, 2), 1)), set())
        self.assertEqual(Struck(calm_and((1, None), (1, 2), 1)).kept, (0, 1, 2))


class SeveralRulesTest(StruckCase):
    def test_no_unknowns(self):
        told = self.struck(((), (), ()))
        self.assertTrue(same((told.slim, told.kept, told.extra), (((), (), ()), (), 0)))
        self.assertTrue(same((told.point_back(()), told.ray_back(())), ((), ())))
        told = self.struck(((), (((), 0), ((), -4)), ()))
        self.assertTrue(same(told.slim, ((), (), ())))
        told = self.struck(((), (((), 0), ((), 1)), ()))
        self.assertEqual(told.kind, "none")
        for w in (0, 5):
            self.right_paper(((), (((), -4),), ()), Struck(((), (((), -4),), ())), (("shut", 0),), w)

    def test_no_rows(self):
        plan = (((2, 7), (-3, None), (4, 4), (-1, None)), (), (5, -2, 1, 3))
        told = self.struck(plan)
        self.assertTrue(same((told.slim, told.kept, told.extra), ((((-1, None),), (), (3,)), (3,), 45)))
        self.assertTrue(same(told.point_back((8,)), (7, -3, 4, 8)))
        self.assertTrue(same(told.ray_back((2,)), (0, 0, 0, 2)))

    def test_all_goes(self):
        plan = (((0, 3), (0, None)), (((1, 1), 2), ((1, 3), -4)), (1, 0))
        told = self.struck(plan)
        self.assertEqual(told.kept, ())
        self.assertEqual(told.extra, 3)
        self.right_point(plan, told, ())
        for w in (0, 7):
            self.right_paper(plan, told, (("shut", 0),), w)
            self.right_paper(plan, told, (("choice", (), 4), ("shut", 0), ("shut", 0)), w)

    def test_values_that_hang_one_behind_the_other(self):
        # z hangs on the rest, u then on x alone: x at most u, u + x at most z.
        rows = (((-1, 1, 0), 0), ((-1, -1, 2), 1))
        plan = (((0, None), (0, None), (0, None)), rows, (1, 0, 0))
        told = self.struck(plan)
        self.assertEqual(told.kept, (0,))
        for x in (0, 1, 2, 3, GREAT):
            self.assertEqual(self.right_point(plan, told, (x,)), (x, x, -(-(2 * x + 1) // 2)))
        self.assertEqual(self.right_ray(plan, told, (0,)), (0, 0, 0))
        self.assertEqual(self.right_ray(plan, told, (3,)), (3, 3, 3))

    def test_long_chains(self):
        n = 8
        rows = tuple((tuple(-k - 2 if i == k else 3 if i == k + 1 else 0 for i in range(n)), 1 - k) for k in range(n - 1))
        plan = (((-4, None),) * n, rows, (1,) + (0,) * (n - 1))
        told = self.struck(plan)
        self.assertEqual(told.kept, (0,))
        for x in range(-4, 30):
            self.right_point(plan, told, (x,))
        self.right_ray(plan, told, (1,))

    def test_no_answer_behind_other_rules(self):
        # R3 makes x at least 3, R6 takes y away, then the row can't be met.
        plan = (((0, 4), (1, 1)), (((2, 0), 5), ((-3, -2), -10)), (1, 1))
        self.assertFalse({"R0", "R1"} & speaking(plan))
        self.assertEqual(self.struck(plan).kind, "none")
        # R3 twice: 2 x at least 5 and at most 5.
        plan = (((0, 4),), (((2,), 5), ((-2,), -5)), (1,))
        self.assertFalse({"R0", "R1"} & speaking(plan))
        self.assertEqual(self.struck(plan).kind, "none")
        # R7 takes y away with its least 2; then 2 x at least 5 and 3 x at most 8.
        plan = (((0, 4), (2, None)), (((2, -1), 3), ((-3, -1), -10)), (1, -1))
        self.assertEqual(speaking(plan), {"R7"})
        self.assertEqual(self.struck(plan).kind, "none")
        # R4, and behind it R5 with the greater bound, and R3 on what is left of it.
        plan = (((0, 9), (0, 9), (4, 4)), (((2, 2, 0), 35), ((1, 1, 0), 3), ((-1, 0, -1), -10)), (1, 1, 1))
        self.assertFalse({"R0", "R1"} & speaking(plan))
        self.assertEqual(self.struck(plan).kind, "none")

    def test_no_answer_at_once_though_others_speak(self):
        # R5, R6, R9 speak too; the hopeless row must not be lost.
        plan = (((0, 1), (2, 2), (0, None)), (((1, 1, 0), 4), ((1, 1, 0), 3), ((1, 0, 1), 1), ((1, 1, 0), 4)), (0, 0, 0))
        self.assertIn("R1", speaking(plan))
        self.assertEqual(self.struck(plan).kind, "none")
        plan = (((0, 1), (3, 2), (0, None)), (((0, 1, 1), 4),), (0, 0, 0))
        self.assertIn("R0", speaking(plan))
        self.assertEqual(self.struck(plan).kind, "none")

    def test_great_numbers(self):
        plan = (((-GREAT, GREAT), (GREAT, GREAT), (0, None)),
                (((2 * GREAT, 3, 1), GREAT), ((-GREAT, -GREAT, -1), -3 * GREAT * GREAT), ((GREAT, 0, 0), -GREAT)),
                (GREAT, -GREAT, 1))
        told = self.struck(plan)
        self.assertEqual(told.kind, "slim")
        spot = first(givens(told.slim), (0,) * len(told.kept))[1]
        if spot[1] == 1:
            self.right_point(plan, told, spot[0])

    def test_the_plan_is_not_changed(self):
        plan = (((0, 4), (1, 1)), (((2, 0), 5), ((-3, -2), -30)), (1, 1))
        told = Struck(plan)
        before = (told.slim, told.kept, told.extra, told.point_back((3,) if told.kept else ()))
        Struck(CALM).point_back((1, 1))
        self.assertEqual(before, (told.slim, told.kept, told.extra, told.point_back((3,) if told.kept else ())))
        self.assertTrue(same(Struck(plan).slim, told.slim))


def made_plan(chance):
    """Small numbers, many noughts and rows that come twice, so that each rule speaks now and then."""
    n = chance.randint(0, 4)
    leasts = numbers(chance, n, 2)
    bounds = tuple((least, None if chance.random() < 0.35 else least + chance.choice((0, 1, 2, 3))) for least in leasts)
    if n > 0 and chance.random() < 0.03:
        bounds = ((2, 1),) + bounds[1:]
    rows = [(tuple(chance.choice((0, 0, 1, -1, 2, -2, 3, -4)) for _ in range(n)), chance.randint(-7, 4))
            for _ in range(chance.randint(0, 5))]
    if rows and chance.random() < 0.3:
        rows.append((chance.choice(rows)[0], chance.randint(-7, 4)))
    return (bounds, tuple(rows), tuple(chance.choice((0, 1, -1, 2)) for _ in range(n)))


def calmer_plan(chance):
    """A plan of more unknowns whose goal and rows pull against one another: much of it stays."""
    n = chance.randint(2, 4)
    bounds = tuple((least, chance.choice((None, least + 2, least + 3, least + 3))) for least in numbers(chance, n, 2))
    rows = [(tuple(chance.choice((1, -1, 2, -2, 3, -3, 0)) for _ in range(n)), chance.randint(-5, 1))
            for _ in range(chance.randint(2, 5))]
    return (bounds, tuple(rows), tuple(chance.choice((1, 2, -1)) for _ in range(n)))


def slim_spots(slim, size):
    """All answers of the slim plan of which each number is less than size above its least."""
    ranges = [range(least, least + size if most is None else min(most + 1, least + size)) for least, most in slim[0]]
    return [spot for spot in itertools.product(*ranges) if meets_all(slim[1], spot)]


def paper_with_all(chance, rows, n):
    """A right paper with choices of any entries and with cuts that later lines use, or None."""
    lines = ()
    if chance.random() < 0.6:
        for line in rounds(rows, numbers(chance, n, 2), chance.randint(1, 3)):
            lines += (line,)
            rows += (line_row(rows, line[1], line[2]),)
    if rows and chance.random() < 0.4:
        k = chance.randrange(len(rows))
        line = ("cut", ((k, 1), (chance.randrange(len(rows)), 0), (k, 2)), 1)
        lines += (line,)
        rows += (line_row(rows, line[1], line[2]),)
    if chance.random() < 0.4:
        entries, k = numbers(chance, n, 2), chance.randint(-2, 2)
        one = made_paper(rows + ((tuple(-e for e in entries), -k),), n, 12)
        other = one and made_paper(rows + ((entries, k + 1),), n, 12)
        return lines + (("choice", entries, k),) + one + other if other else None
    paper = made_paper(rows, n, 12)
    return paper and lines + paper


class MadeUpTest(StruckCase):
    def setUp(self):
        chance = maker(61)
        self.plans = [made_plan(chance) for _ in range(1200)] + [calmer_plan(chance) for _ in range(500)]

    def test_kinds_and_slim_plans(self):
        kinds = {}
        for plan in self.plans:
            told = self.struck(plan)
            rules = speaking(plan)
            if rules & {"R0", "R1"}:
                self.assertEqual(told.kind, "none", plan)
            if not rules:
                self.assertTrue(same((told.slim, told.kept, told.extra), (plan, tuple(range(len(plan[0]))), 0)))
            key = (told.kind, len(told.kept), bool(rules))
            kinds[key] = kinds.get(key, 0) + 1
        self.assertGreater(kinds[("none", 0, True)], 100)
        self.assertTrue(all(kinds[("slim", k, True)] > 20 for k in (0, 1, 2, 3)), kinds)
        self.assertGreater(sum(kinds.get(("slim", k, False), 0) for k in (2, 3, 4)), 20)

    def test_none_only_behind_other_rules(self):
        behind = [plan for plan in self.plans if Struck(plan).kind == "none" and not speaking(plan) & {"R0", "R1"}]
        self.assertGreater(len(behind), 20)

    def test_all_answers_lead_back(self):
        many = 0
        for plan in self.plans:
            told = Struck(plan)
            if told.kind == "slim":
                for spot in slim_spots(told.slim, 4):
                    many += 1
                    self.right_point(plan, told, spot)
        self.assertGreater(many, 3000)

    def test_answers_are_there_on_both_sides_or_on_none(self):
        asked = 0
        for plan in self.plans:
            if any(most is None for _, most in plan[0]):
                continue
            told = Struck(plan)
            spots = slim_spots(plan, 4)
            slim = slim_spots(told.slim, 4) if told.kind == "slim" else []
            self.assertEqual(bool(spots), bool(slim))
            if spots:
                asked += 1
                best = max(worth(plan, spot) for spot in spots)
                self.assertEqual(best, max(worth(told.slim, spot) for spot in slim) + told.extra)
        self.assertGreater(asked, 50)

    def test_all_rays_lead_back(self):
        many = 0
        for plan in self.plans:
            told = Struck(plan)
            if told.kind == "slim":
                for ray in itertools.product(range(3), repeat=len(told.kept)):
                    if all(dot(row[0], ray) >= 0 for row in givens(told.slim)):
                        many += any(ray)
                        self.right_ray(plan, told, ray)
        self.assertGreater(many, 500)

    def test_papers_of_none_lead_back(self):
        chance = maker(62)
        many = 0
        for plan in self.plans:
            told = Struck(plan)
            if told.kind == "slim":
                paper = paper_with_all(chance, givens(told.slim), len(told.kept))
                if paper is not None:
                    many += 1
                    self.right_paper(plan, told, paper, None)
        self.assertGreater(many, 30)

    def test_papers_with_a_better_row_lead_back(self):
        chance = maker(63)
        many = deep = 0
        for plan in self.plans:
            told = Struck(plan)
            if told.kind == "slim":
                spots = slim_spots(told.slim, 4)
                best = max([worth(told.slim, spot) for spot in spots], default=0)
                for w in (best, best + 1, best + 50, best + GREAT, -best):
                    rows = givens(told.slim) + (better(told.slim, w),)
                    paper = paper_with_all(chance, rows, len(told.kept))
                    if paper is not None:
                        many += 1
                        deep += any(line[0] == "choice" for line in paper) and len(told.kept) > 1
                        self.right_paper(plan, told, paper, w)
        self.assertGreater(many, 1000)
        self.assertGreater(deep, 200)

    def test_plans_of_eight_unknowns_and_twelve_rows(self):
        chance = maker(64)
        stayed = 0
        for turn in range(60):
            size = chance.choice((2, 9, GREAT))
            bounds = tuple((least, chance.choice((None, least, least + chance.randint(1, size)))) for least in numbers(chance, 8, size))
            rows = tuple((tuple(chance.choice((0, 1, 1)) * a for a in numbers(chance, 8, size)), chance.randint(-9 * size, 0) * size)
                         for _ in range(12))
            plan = (bounds, rows, numbers(chance, 8, size))
            told = self.struck(plan)
            if told.kind == "slim":
                ending = first(givens(told.slim), told.slim[2])
                if ending[0] == "best":
                    stayed += len(told.kept) > 3
                    w = dot(told.slim[2], ending[1][0]) // ending[1][1]
                    self.right_paper(plan, told, made_paper(givens(told.slim) + (better(told.slim, w),), len(told.kept)), w)
                if ending[0] == "endless":
                    self.right_ray(plan, told, ending[2])
                if ending[0] != "none" and ending[1][1] == 1:
                    self.right_point(plan, told, ending[1][0])
        self.assertGreater(stayed, 10)


if __name__ == "__main__":
    unittest.main()
