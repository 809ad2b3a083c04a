"""What is promised over the whole program: its interface, its kinds of values, and that nothing is kept."""

import importlib
import inspect
import unittest

from aids import dot, is_plain, maker, numbers, same
from cutyard.covers import cover, cover_plan
from cutyard.cuts import corner_cut, rounds
from cutyard.desk import Desk
from cutyard.first import first, trail
from cutyard.levels import levels
from cutyard.looker import bars, holds, line_row, shares_hold
from cutyard.plans import better, givens, worth
from cutyard.roads import road, road_plan
from cutyard.rows import evened, left, meets, passes, turned
from cutyard.sacks import sack, sack_plan
from cutyard.search import found
from cutyard.seats import seat_plan, seating
from cutyard.settle import settled
from cutyard.strikes import Struck
from cutyard.texts import read_plan, write_plan
from cutyard.ways import inner
from cutyard.wholes import common, lowest, up
from cutyard.yard import Yard

FUNCTIONS = {
    "wholes": {"common": 1, "up": 2, "lowest": 2},
    "rows": {"left": 2, "meets": 2, "passes": 2, "turned": 1, "evened": 1},
    "plans": {"givens": 1, "worth": 2, "better": 2},
    "texts": {"read_plan": 1, "write_plan": 3},
    "first": {"trail": 2, "first": 2},
    "looker": {"line_row": 3, "bars": 2, "shares_hold": 3, "holds": 2},
    "cuts": {"corner_cut": 2, "rounds": 3},
    "levels": {"levels": 2},
    "ways": {"inner": 1},
    "search": {"found": 1},
    "settle": {"settled": 1},
    "covers": {"cover_plan": 2, "cover": 2},
    "sacks": {"sack_plan": 2, "sack": 2},
    "seats": {"seat_plan": 3, "seating": 3},
    "roads": {"road_plan": 4, "road": 4},
}
CLASSES = {
    "strikes": ("Struck", 1, {"point_back": 1, "ray_back": 1, "paper_back": 2}),
    "yard": ("Yard", 1, {"put_row": 1, "take_row": 1, "turn": 1, "back": 0, "plan_now": 0, "answer": 0}),
    "desk": ("Desk", 0, {"say": 1}),
}


def module(name):
    return importlib.import_module("cutyard." + name)


class InterfaceTest(unittest.TestCase):
    def assert_takes(self, ask, many):
        """So many arguments, by place, none of them left out."""
        parts = inspect.signature(ask).parameters.values()
        self.assertEqual(len(parts), many, ask)
        for part in parts:
            self.assertIs(part.kind, inspect.Parameter.POSITIONAL_OR_KEYWORD)

    def test_functions(self):
        for name, asked in FUNCTIONS.items():
            for function, many in asked.items():
                self.assert_takes(getattr(module(name), function), many)

    def test_classes(self):
        for name, (word, many, methods) in CLASSES.items():
            kind = getattr(module(name), word)
            self.assertTrue(inspect.isclass(kind))
            self.assert_takes(kind, many)
            for method, parts in methods.items():
                self.assert_takes(getattr(kind, method), parts + 1)

    def test_a_walks_module_is_there(self):
        self.assertIsNotNone(module("walks"))


def made_plan(chance):
    n = chance.randint(0, 3)
    bounds = tuple((chance.randint(-2, 1), chance.choice((None, 1, 4))) for _ in range(n))
    rows = tuple((numbers(chance, n, 4), chance.randint(-6, 3)) for _ in range(chance.randint(0, 4)))
    return (bounds, rows, numbers(chance, n, 4))


def plan_questions(plan):
    """Questions about a plan, each as (function, parts)."""
    rows, goal = givens(plan), plan[2]
    spot = tuple(least for least, most in plan[0])
    told = settled(plan)
    ending = first(rows, goal)
    asks = [(givens, (plan,)), (worth, (plan, spot)), (better, (plan, 7)), (trail, (rows, goal)), (first, (rows, goal)),
            (corner_cut, (rows, goal)), (rounds, (rows, goal, 3)), (levels, (len(goal), tuple(row[0] for row in rows))),
            (inner, (rows,)), (found, (rows,)), (settled, (plan,)), (holds, (plan, told)),
            (shares_hold, (rows, goal, ending)), (common, (goal,)), (lowest, (goal, 6)), (up, (sum(goal), 3)),
            (left, (goal, spot)), (bars, (rows, (("shut", 0),))), (line_row, (rows, ((0, 2),), 1))]
    for row in rows:
        asks += [(turned, (row,)), (evened, (row,)), (meets, (row, spot)), (passes, (row, (spot, 2)))]
    return asks


DOORS = [
    (cover_plan, ((("x", 1), ("y", 0)), (("a", 2, ("x", "y")), ("b", 1, ("x",))))),
    (cover, ((("x", 1), ("y", 0)), (("a", 2, ("x", "y")), ("b", 1, ("x",))))),
    (cover, ((("x", 3),), (("a", 2, ("x",)),))),
    (sack_plan, ((("w", 7),), (("a", 2, None, (3,)), ("b", 1, 2, (0,))))),
    (sack, ((("w", 7),), (("a", 2, None, (3,)), ("b", 1, 2, (0,))))),
    (sack, ((("w", 7),), (("a", 2, None, (0,)),))),
    (seat_plan, (("g",), ("s", "t"), (("g", "t", 4), ("g", "s", 5)))),
    (seating, (("g",), ("s", "t"), (("g", "t", 4), ("g", "s", 5)))),
    (seating, (("g", "h"), ("s",), (("g", "s", 4), ("h", "s", 5)))),
    (road_plan, (("a", "b", "c"), (("a", "b", 4),), "a", "b")),
    (road, (("a", "b", "c"), (("a", "b", 4),), "a", "b")),
    (road, (("a", "b", "c"), (("a", "b", 4),), "b", "a")),
    (road, (("a", "b", "c"), (("a", "b", 4), ("b", "b", -1)), "a", "b")),
    (read_plan, ("unknown x from 0\nrow 2 x at most 5\nleast 1 x",)),
    (write_plan, (("x",), (((0, None),), (((-2,), -5),), (-1,)), -1)),
]
TRUTHS = (meets, passes, bars, shares_hold, holds)


class KindsTest(unittest.TestCase):
    def setUp(self):
        chance = maker(500)
        self.plans = [made_plan(chance) for _ in range(40)]
        self.asks = DOORS + [ask for plan in self.plans for ask in plan_questions(plan)]

    def test_truths_stand_where_truths_are_told_alone(self):
        for ask, parts in self.asks:
            told = ask(*parts)
            if ask in TRUTHS:
                self.assertIs(type(told), bool)
            else:
                self.assertTrue(is_plain(told), (ask, parts))

    def test_nothing_hangs_on_what_was_asked_before(self):
        before = [ask(*parts) for ask, parts in self.asks]
        order = list(range(len(self.asks)))
        maker(501).shuffle(order)
        for k in order:
            ask, parts = self.asks[k]
            again = ask(*parts)
            self.assertTrue(same(again, before[k]), (ask, parts))

    def test_objects_tell_plain_values(self):
        for plan in self.plans:
            struck = Struck(plan)
            fields = (struck.kind, struck.paper, struck.slim, struck.kept, struck.extra)
            self.assertTrue(is_plain(fields))
            self.assertTrue(same(fields, (Struck(plan).kind, Struck(plan).paper, Struck(plan).slim, Struck(plan).kept,
                                          Struck(plan).extra)))
            yard = Yard(plan)
            self.assertTrue(is_plain((yard.plan_now(), yard.answer())))

    def test_the_three_ways_to_settle_agree(self):
        """By itself, struck out ahead, and in a yard that came to it by changes."""
        for plan in self.plans:
            told = settled(plan)
            yard = Yard((plan[0], (), (0,) * len(plan[2])))
            for row in plan[1]:
                yard.put_row(row)
                yard.answer()
            yard.turn(plan[2])
            self.assertEqual(self.summary(plan, yard.answer()), self.summary(plan, told))
            struck = Struck(plan)
            if struck.kind == "none":
                self.assertEqual(told[0], "none")
            else:
                slim = settled(struck.slim)
                self.assertEqual(slim[0], told[0])
                if slim[0] == "best":
                    self.assertEqual(worth(struck.slim, slim[1]) + struck.extra, worth(plan, told[1]))

    def summary(self, plan, told):
        return (told[0], dot(plan[2], told[1]) if told[0] == "best" else None)

    def test_desks_and_yards_side_by_side(self):
        one, other = Desk(), Desk()
        for line in ("unknown x from 0 to 5", "most 3 x"):
            one.say(line)
        other.say("unknown y from 0 to 2")
        self.assertEqual(one.say("ask"), "best 15 x 5")
        self.assertEqual(other.say("ask").split(" ")[:3], ["best", "0", "y"])


if __name__ == "__main__":
    unittest.main()
