import unittest

from aids import dot, is_plain, maker, numbers, same
from cutyard.looker import holds
from cutyard.settle import settled
from cutyard.yard import Yard, moved_line
from refusals import refusal

GREAT = 10 ** 199

# x from 0 to 9, y from 0 to 9; x + 2 y at most 14.
PLAN = (((0, 9), (0, 9)), (((-1, -2), -14),), (2, 3))
OPEN = (((0, None), (0, None)), (((1, -1), -3),), (1, 0))


def summary(plan, told):
    """The word, and the worth where it is best."""
    return (told[0], dot(plan[2], told[1]) if told[0] == "best" else None)


class YardCase(unittest.TestCase):
    def right(self, yard):
        """What the yard answers is true, and tells the same as a fresh one."""
        told = yard.answer()
        plan = yard.plan_now()
        self.assertTrue(is_plain(told))
        self.assertIs(holds(plan, told), True)
        self.assertEqual(summary(plan, told), summary(plan, settled(plan)))
        self.assertEqual(summary(plan, told), summary(plan, Yard(plan).answer()))
        self.assertTrue(same(yard.answer(), told))
        return told


class ChangesTest(YardCase):
    def test_put_take_turn(self):
        yard = Yard(PLAN)
        self.assertTrue(same(yard.plan_now(), PLAN))
        self.assertIsNone(yard.put_row(((1, 1), 3)))
        self.assertTrue(same(yard.plan_now(), (PLAN[0], PLAN[1] + (((1, 1), 3),), PLAN[2])))
        self.assertIsNone(yard.put_row(((0, 1), 2)))
        self.assertIsNone(yard.take_row(1))
        self.assertTrue(same(yard.plan_now(), (PLAN[0], PLAN[1] + (((0, 1), 2),), PLAN[2])))
        self.assertIsNone(yard.turn((-1, 0)))
        self.assertTrue(same(yard.plan_now(), (PLAN[0], PLAN[1] + (((0, 1), 2),), (-1, 0))))
        self.assertIsNone(yard.take_row(0))
        self.assertTrue(same(yard.plan_now(), (PLAN[0], (((0, 1), 2),), (-1, 0))))

    def test_back(self):
        yard = Yard(PLAN)
        plans = [PLAN]
        for change in (lambda: yard.put_row(((1, 1), 3)), lambda: yard.turn((5, 5)), lambda: yard.take_row(0),
                       lambda: yard.put_row(((1, 1), 3)), lambda: yard.turn((5, 5)), lambda: yard.take_row(1)):
            change()
            plans.append(yard.plan_now())
        while len(plans) > 1:
            plans.pop()
            self.assertIsNone(yard.back())
            self.assertTrue(same(yard.plan_now(), plans[-1]))
        self.assertEqual(refusal(yard.back), "NoChange")
        self.assertTrue(same(yard.plan_now(), PLAN))
        # What was taken back doesn't come again.
        yard.turn((7, 7))
        yard.back()
        self.assertEqual(refusal(yard.back), "NoChange")

    def test_what_stands_already_is_a_change(self):
        yard = Yard(PLAN)
        yard.turn(PLAN[2])
        yard.put_row(PLAN[1][0])
        self.assertTrue(same(yard.plan_now(), (PLAN[0], PLAN[1] * 2, PLAN[2])))
        yard.back()
        self.assertTrue(same(yard.plan_now(), PLAN))
        self.assertIsNone(yard.back())
        self.assertEqual(refusal(yard.back), "NoChange")

    def test_questions_are_no_changes(self):
        yard = Yard(PLAN)
        yard.turn((1, 1))
        yard.answer()
        yard.plan_now()
        yard.back()
        self.assertTrue(same(yard.plan_now(), PLAN))
        yard.answer()
        self.assertEqual(refusal(yard.back), "NoChange")

    def test_refusals(self):
        yard = Yard((PLAN[0], PLAN[1] * 11, PLAN[2]))
        yard.put_row(((1, 1), 1))
        self.assertEqual(refusal(yard.put_row, ((1, 1), 2)), "TooGreat")
        self.assertEqual(refusal(yard.take_row, 12), "NoRow")
        self.assertEqual(refusal(yard.take_row, -1), "NoRow")
        self.assertEqual(refusal(yard.take_row, GREAT), "NoRow")
        yard.take_row(11)
        self.assertEqual(refusal(yard.take_row, 11), "NoRow")
        yard.put_row(((1, 1), 3))
        self.assertEqual(refusal(Yard((((0, 1),), (), (1,))).take_row, 0), "NoRow")
        self.assertEqual(refusal(Yard(((), (), ())).back), "NoChange")
        self.assertEqual(refusal(Yard((PLAN[0], PLAN[1] * 12, PLAN[2])).put_row, ((1, 1), 2)), "TooGreat")

    def test_what_is_refused_changes_nothing(self):
        yard = Yard((PLAN[0], PLAN[1] * 12, PLAN[2]))
        told = yard.answer()
        plan = yard.plan_now()
        for ask, part in ((yard.put_row, ((1, 1), 0)), (yard.put_row, ((-1, -1), 0)), (yard.take_row, 12),
                          (yard.take_row, -1)):
            self.assertIsNotNone(refusal(ask, part))
            self.assertTrue(same(yard.plan_now(), plan))
            self.assertTrue(same(yard.answer(), told))
        self.assertEqual(refusal(yard.back), "NoChange")
        self.assertTrue(same(yard.answer(), told))
        yard.take_row(0)
        self.assertEqual(refusal(yard.take_row, 11), "NoRow")
        yard.back()
        self.assertTrue(same(yard.plan_now(), plan))
        self.assertEqual(refusal(yard.back), "NoChange")

    def test_no_unknowns(self):
        yard = Yard(((), (), ()))
        self.assertEqual(self.right(yard)[0], "best")
        yard.put_row(((), 0))
        self.assertEqual(self.right(yard)[0], "best")
        yard.put_row(((), 1))
        self.assertEqual(self.right(yard)[0], "none")
        yard.turn(())
        self.assertEqual(self.right(yard)[0], "none")


class KnownTest(YardCase):
    def test_best_stays_behind_a_row_that_is_met(self):
        for asked in (True, False):
            yard = Yard(PLAN)
            spot = yard.answer()[1]
            self.assertEqual(spot, (8, 3))
            for row in (((1, 0), 8), ((-1, -1), -11), ((0, 0), 0), ((3, -1), -GREAT)):
                yard.put_row(row)
                if asked:
                    self.assertEqual(self.right(yard)[1], spot)
            self.assertEqual(self.right(yard)[:2], ("best", spot))

    def test_best_stays_with_its_own_spot(self):
        # Many spots are as good; another search may well tell another one behind the row.
        plan = (((0, 9), (0, 9)), (((-1, -1), -9),), (1, 1))
        for row in (((0, 0), 0), ((-1, -1), -9), ((1, 1), 1), ((1, 1), 9)):
            yard = Yard(plan)
            told = yard.answer()
            yard.put_row(row)
            self.assertEqual(self.right(yard)[1], told[1])
        for entries in ((1, 0), (0, 1), (-1, 0), (0, -1), (1, -1), (-1, 1), (5, 3)):
            yard = Yard(plan)
            spot = yard.answer()[1]
            # Met evenly by the spot.
            yard.put_row((entries, dot(entries, spot)))
            self.assertEqual(self.right(yard)[1], spot)
            # Missed by one.
            yard = Yard(plan)
            yard.answer()
            yard.put_row((entries, dot(entries, spot) + 1))
            self.assertNotEqual(self.right(yard)[1], spot)

    def test_best_is_forgotten(self):
        yard = Yard(PLAN)
        yard.answer()
        yard.put_row(((-1, 0), -5))
        self.assertEqual(self.right(yard)[:2], ("best", (4, 5)))
        yard.take_row(0)
        self.assertEqual(self.right(yard)[:2], ("best", (5, 9)))
        yard.turn((-1, -1))
        self.assertEqual(self.right(yard)[:2], ("best", (0, 0)))
        yard.turn((0, 0))
        self.right(yard)
        yard.put_row(((1, 1), 15))
        self.assertEqual(self.right(yard)[0], "none")

    def test_none_is_forgotten(self):
        yard = Yard((PLAN[0], (((1, 1), 30), ((-1, -1), -12)), PLAN[2]))
        self.assertEqual(self.right(yard)[0], "none")
        yard.put_row(((1, 0), 0))
        self.assertEqual(self.right(yard)[0], "none")
        yard.turn((1, 0))
        self.assertEqual(self.right(yard)[0], "none")
        yard.take_row(0)
        self.assertEqual(self.right(yard)[0], "best")

    def test_endless_stays(self):
        yard = Yard(OPEN)
        told = self.right(yard)
        self.assertEqual(told[0], "endless")
        spot, ray = told[1], told[2]
        # Along the ray the row stays as it is, or grows; the spot meets it evenly.
        across = (-ray[1], ray[0])
        for row in ((ray, dot(ray, spot)), (across, dot(across, spot)), ((0, 0), 0), ((1, 1), -GREAT)):
            yard.put_row(row)
            self.assertTrue(same(self.right(yard), told))
        for number in (0, 0, 2, 1, 0):
            yard.take_row(number)
            self.assertTrue(same(self.right(yard), told))
        self.assertEqual(yard.plan_now()[1], ())

    def test_endless_stays_unasked(self):
        yard = Yard(OPEN)
        told = yard.answer()
        yard.put_row(((1, 1), 0))
        yard.take_row(0)
        yard.put_row(((1, 0), 0))
        self.assertTrue(same(self.right(yard), told))

    def test_endless_stays_where_a_fresh_yard_tells_another_spot(self):
        chance = maker(441)
        fresh = {"put_row": 0, "take_row": 0}
        for _ in range(600):
            plan = (((0, None),) * 3, tuple((numbers(chance, 3, 2), chance.randint(-3, 5)) for _ in range(2)),
                    numbers(chance, 3, 2))
            yard = Yard(plan)
            told = yard.answer()
            if told[0] != "endless":
                continue
            entries = numbers(chance, 3, 2)
            if chance.random() < 0.5:
                yard.take_row(chance.randint(0, 1))
                fresh["take_row"] += not same(settled(yard.plan_now()), told)
            elif dot(entries, told[2]) == 0:
                # Along the ray it stays as it is.
                yard.put_row((entries, dot(entries, told[1]) - chance.randint(0, 2)))
                fresh["put_row"] += not same(settled(yard.plan_now()), told)
            self.assertTrue(same(self.right(yard), told))
        self.assertGreater(min(fresh.values()), 4, fresh)

    def test_endless_is_forgotten(self):
        yard = Yard(OPEN)
        told = yard.answer()
        spot, ray = told[1], told[2]
        yard.put_row((tuple(-a for a in ray), -dot(ray, spot)))
        # The spot meets it, the ray goes against it.
        again = self.right(yard)
        self.assertFalse(same(again, told))
        yard.back()
        yard.put_row((ray, dot(ray, spot) + 1))
        # The ray goes along, the spot misses it.
        again = self.right(yard)
        self.assertEqual(again[0], "endless")
        self.assertNotEqual(again[1], spot)
        yard.turn((-1, 0))
        self.assertEqual(self.right(yard)[0], "best")
        yard.turn((0, 1))
        self.assertEqual(self.right(yard)[0], "endless")

    def test_back_makes_known_again(self):
        for plan in (PLAN, OPEN, (PLAN[0], PLAN[1] + (((1, 1), 30),), PLAN[2])):
            yard = Yard(plan)
            told = yard.answer()
            changes = (
                lambda: yard.put_row(((-1, -1), 1)), lambda: yard.turn((0, -1)), lambda: yard.take_row(0),
                lambda: yard.put_row(((1, 1), 0)), lambda: yard.turn(plan[2]),
            )
            for change in changes:
                for asked in (False, True):
                    change()
                    if asked:
                        self.right(yard)
                    yard.back()
                    self.assertTrue(same(yard.answer(), told))
            # Several changes, one behind another, all taken back.
            for change in changes:
                change()
                self.right(yard)
            for _ in changes:
                yard.back()
            self.assertTrue(same(yard.answer(), told))

    def test_back_to_what_was_never_told(self):
        yard = Yard(PLAN)
        spot = yard.answer()[1]
        yard.put_row(((1, 0), 1))
        # Best is known here, but its paper isn't told.
        yard.put_row(((-1, 0), -3))
        self.right(yard)
        yard.back()
        told = self.right(yard)
        self.assertEqual(told[1], spot)
        yard.turn((-1, -1))
        self.right(yard)
        yard.back()
        # By now it was told.
        self.assertTrue(same(yard.answer(), told))

    def test_back_to_where_nothing_was_known(self):
        yard = Yard(PLAN)
        yard.turn((1, 0))
        yard.answer()
        yard.back()
        self.assertEqual(self.right(yard)[1], (8, 3))
        yard = Yard(PLAN)
        yard.put_row(((-1, 0), -5))
        yard.answer()
        yard.back()
        self.assertEqual(self.right(yard)[1], (8, 3))

    def test_two_yards(self):
        one, other = Yard(PLAN), Yard(PLAN)
        one.turn((-1, 0))
        one.put_row(((1, 0), 1))
        one.answer()
        self.assertTrue(same(other.plan_now(), PLAN))
        self.assertEqual(other.answer()[1], (8, 3))
        self.assertEqual(refusal(other.back), "NoChange")
        other.put_row(((-1, 0), -2))
        self.assertEqual(self.right(one)[1][0], 1)
        one.back()
        one.back()
        self.assertTrue(same(one.plan_now(), PLAN))
        self.assertEqual(self.right(other)[1][0], 2)


class PaperTest(unittest.TestCase):
    def test_moved_lines(self):
        self.assertEqual(moved_line(("cut", ((0, 2), (4, 1), (5, 3), (4, 0)), 7), 4),
                         ("cut", ((0, 2), (5, 1), (6, 3), (5, 0)), 7))
        self.assertEqual(moved_line(("shut", 3), 4), ("shut", 3))
        self.assertEqual(moved_line(("shut", 4), 4), ("shut", 5))
        self.assertEqual(moved_line(("choice", (4, 5), 4), 4), ("choice", (4, 5), 4))


class Model:
    """What a yard should tell: plan, what is known (word, spot, ray), and the whole answer where it was told."""

    def __init__(self, plan):
        self.states = [(plan, None, None)]

    def now(self):
        return self.states[-1]

    def put_row(self, row):
        (bounds, rows, goal), known, told = self.now()
        plan = (bounds, rows + (row,), goal)
        stays = known is not None and known[0] != "none" and dot(row[0], known[1]) >= row[1]
        if stays and known[0] == "endless":
            stays = dot(row[0], known[2]) >= 0
        # An endless answer has no paper: all of it stays.
        self.states.append((plan, known if stays else None, told if stays and known[0] == "endless" else None))

    def take_row(self, number):
        (bounds, rows, goal), known, told = self.now()
        plan = (bounds, rows[:number] + rows[number + 1:], goal)
        stays = known is not None and known[0] == "endless"
        self.states.append((plan, known if stays else None, told if stays else None))

    def turn(self, goal):
        (bounds, rows, old), known, told = self.now()
        self.states.append(((bounds, rows, goal), None, None))

    def back(self):
        self.states.pop()

    def hear(self, told):
        plan = self.now()[0]
        known = ("none",) if told[0] == "none" else told[:2] if told[0] == "best" else told
        self.states[-1] = (plan, known, told)


def step(chance, n):
    """A change: its name and what is handed in."""
    name = chance.choice(("put_row", "put_row", "take_row", "turn", "back", "back"))
    if name == "put_row":
        return name, ((numbers(chance, n, 3), chance.randint(-9, 2)),)
    if name == "take_row":
        return name, (chance.randint(-1, 12),)
    if name == "turn":
        return name, (numbers(chance, n, 3),)
    return name, ()


def expected_refusal(model, name, parts):
    rows = model.now()[0][1]
    if name == "put_row" and len(rows) == 12:
        return "TooGreat"
    if name == "take_row" and not 0 <= parts[0] < len(rows):
        return "NoRow"
    if name == "back" and len(model.states) == 1:
        return "NoChange"
    return None


class ManyChangesTest(YardCase):
    def compare(self, yard, model):
        plan, known, told = model.now()
        answer = yard.answer()
        self.assertIs(holds(plan, answer), True)
        self.assertEqual(summary(plan, answer), summary(plan, settled(plan)))
        if told is not None:
            self.assertTrue(same(answer, told))
        elif known is not None:
            self.assertTrue(same(answer[:len(known)], known))
        model.hear(answer)
        return answer[0], known is not None, told is not None

    def test_against_a_model(self):
        chance = maker(440)
        seen = {}
        for _ in range(60):
            n = chance.randint(1, 3)
            bounds = tuple((chance.randint(-2, 0), chance.choice((None, 1, 6))) for _ in range(n))
            rows = tuple((numbers(chance, n, 3), chance.randint(-9, 0)) for _ in range(chance.choice((0, 2, 11))))
            plan = (bounds, rows, numbers(chance, n, 3))
            yard, model = Yard(plan), Model(plan)
            often = chance.choice((0.2, 0.9))
            for _ in range(40):
                name, parts = step(chance, n)
                wanted = expected_refusal(model, name, parts)
                self.assertEqual(refusal(getattr(yard, name), *parts), wanted)
                if wanted is None:
                    getattr(model, name)(*parts)
                self.assertTrue(same(yard.plan_now(), model.now()[0]))
                if chance.random() < often:
                    case = self.compare(yard, model)
                    seen[case] = seen.get(case, 0) + 1
            while len(model.states) > 1:
                yard.back()
                model.back()
                self.assertTrue(same(yard.plan_now(), model.now()[0]))
                self.compare(yard, model)
            self.assertEqual(refusal(yard.back), "NoChange")
        for case in (("best", True, False), ("best", True, True), ("endless", True, True), ("none", True, True),
                     ("best", False, False), ("endless", False, False), ("none", False, False)):
            self.assertGreater(seen.get(case, 0), 5, seen)


if __name__ == "__main__":
    unittest.main()
