import itertools
import unittest

from aids import dot, is_plain, maker, meets_all, same
from cutyard.covers import cover, cover_plan
from cutyard.settle import settled
from refusals import refusal

GREAT = 10 ** 199


def choices(sets):
    """All choices of sets, as tuples of places."""
    for many in range(len(sets) + 1):
        yield from itertools.combinations(range(len(sets)), many)


def gives(things, sets, choice):
    return all(sum(name in sets[k][2] for k in choice) >= need for name, need in things)


def cheapest(things, sets):
    """The least cost of all choices that give each thing its need, or None."""
    return min((sum(sets[k][1] for k in choice) for choice in choices(sets) if gives(things, sets, choice)),
               default=None)


class CoverCase(unittest.TestCase):
    def right(self, things, sets):
        """What is told is as [38] tells it."""
        told = cover(things, sets)
        self.assertTrue(is_plain(told))
        if told[0] == "none":
            short = [name for name, need in things if sum(name in members for _, _, members in sets) < need]
            self.assertEqual(told, ("none", short[0]))
            self.assertIsNone(cheapest(things, sets))
            return told
        word, names, cost = told
        self.assertEqual(word, "best")
        places = [k for k, part in enumerate(sets) if part[0] in names]
        self.assertEqual(names, tuple(sets[k][0] for k in places))
        self.assertEqual(cost, sum(sets[k][1] for k in places))
        self.assertTrue(gives(things, sets, places))
        self.assertEqual(cost, cheapest(things, sets))
        return told


class ByHandTest(CoverCase):
    def test_one_choice_is_best(self):
        things = (("bread", 1), ("milk", 2))
        sets = (("a", 5, ("bread", "milk")), ("b", 3, ("milk",)), ("c", 2, ("bread",)), ("d", 4, ("milk",)))
        self.assertTrue(same(self.right(things, sets), ("best", ("a", "b"), 8)))
        self.assertTrue(same(self.right(things, sets[1:]), ("best", ("b", "c", "d"), 9)))
        self.assertTrue(same(self.right(things, sets[::-1]), ("best", ("b", "a"), 8)))

    def test_nothing(self):
        self.assertTrue(same(cover((), ()), ("best", (), 0)))
        self.assertTrue(same(cover((("x", 0), ("y", -1)), ()), ("best", (), 0)))
        self.assertTrue(same(cover((("x", 0), ("y", 1)), ()), ("none", "y")))
        self.assertTrue(same(cover((), (("a", 4, ()), ("b", -4, ()))), ("best", ("b",), -4)))

    def test_costs_below_0(self):
        things = (("x", 1),)
        sets = (("a", -2, ()), ("b", 3, ("x",)), ("c", -1, ("x",)), ("d", -GREAT, ()))
        self.assertTrue(same(self.right(things, sets), ("best", ("a", "c", "d"), -3 - GREAT)))

    def test_needs_of_0_and_below(self):
        sets = (("a", 2, ("x",)), ("b", 3, ("y",)))
        for need in (0, -1, -GREAT):
            self.assertTrue(same(self.right((("x", need), ("y", 1)), sets), ("best", ("b",), 3)))

    def test_the_first_thing_that_is_short(self):
        sets = (("a", 2, ("x", "z")), ("b", 3, ("x", "y")), ("c", 1, ("z",)))
        things = (("x", 2), ("y", 2), ("z", 3), ("w", 1))
        self.assertTrue(same(self.right(things, sets), ("none", "y")))
        self.assertTrue(same(self.right(things[::-1], sets), ("none", "w")))
        self.assertTrue(same(self.right((("x", 2), ("y", 1), ("z", 3)), sets), ("none", "z")))
        self.assertTrue(same(self.right((("x", 3), ("y", 1), ("z", 2)), sets), ("none", "x")))
        self.assertTrue(same(self.right((("z", 2), ("y", 0), ("x", GREAT)), sets), ("none", "x")))

    def test_names(self):
        # Without signs, one a beginning of another, a set named like a thing.
        things = (("", 1), ("a", 1), ("aa", 1), ("a b", 1))
        sets = (("a", 1, ("", "aa")), ("", 1, ("a",)), ("aa", 1, ("a b",)), ("~", 1, ("a", "aa")))
        self.assertTrue(same(self.right(things, sets), ("best", ("a", "", "aa"), 3)))
        self.assertTrue(same(cover((("", 1),), (("", 2, ()),)), ("none", "")))


class PlanTest(unittest.TestCase):
    def test_part_by_part(self):
        things = (("bread", 1), ("milk", 2), ("salt", -3))
        sets = (("a", 5, ("milk", "bread")), ("b", -3, ("milk",)), ("c", 0, ()))
        plan = cover_plan(things, sets)
        self.assertTrue(same(plan[0], ((0, 1), (0, 1), (0, 1))))
        self.assertTrue(same(plan[1], (((1, 0, 0), 1), ((1, 1, 0), 2), ((0, 0, 0), -3))))
        self.assertTrue(same(plan[2], (-5, 3, 0)))
        self.assertEqual(len(plan), 3)

    def test_nothing(self):
        self.assertTrue(same(cover_plan((), ()), ((), (), ())))
        self.assertTrue(same(cover_plan((("x", 2),), ()), ((), (((), 2),), ())))
        self.assertTrue(same(cover_plan((), (("x", 2, ()),)), (((0, 1),), (), (-2,))))

    def test_made_up(self):
        chance = maker(401)
        for _ in range(100):
            things, sets = made_cover(chance)
            bounds, rows, goal = cover_plan(things, sets)
            self.assertTrue(is_plain((bounds, rows, goal)))
            self.assertEqual((len(bounds), len(rows), len(goal)), (len(sets), len(things), len(sets)))
            for choice in choices(sets):
                spot = tuple(int(k in choice) for k in range(len(sets)))
                self.assertEqual(meets_all(rows, spot), gives(things, sets, choice))
                self.assertEqual(dot(goal, spot), -sum(sets[k][1] for k in choice))


def made_cover(chance):
    names = ["", "a", "aa", "b", "c", "d"][:chance.randint(0, 6)]
    things = tuple((name, chance.choice((-1, 0, 1, 1, 1, 2, 2, 3))) for name in names)
    sets = []
    for k in range(chance.randint(0, 6)):
        members = [name for name in names if chance.random() < 0.6]
        chance.shuffle(members)
        sets.append(("abcdefgh"[k], chance.choice((-2, 0, 1, 3, 4, 7, GREAT)), tuple(members)))
    return things, tuple(sets)


class MadeUpTest(CoverCase):
    def test_against_all_choices(self):
        chance = maker(400)
        words = {"best": 0, "none": 0}
        for _ in range(400):
            things, sets = made_cover(chance)
            told = self.right(things, sets)
            words[told[0]] += 1
            verdict = settled(cover_plan(things, sets))
            self.assertEqual(verdict[0], told[0])
        self.assertGreater(min(words.values()), 80)

    def test_twelve_things_and_eight_sets(self):
        chance = maker(402)
        names = [f"t{k}" for k in range(12)]
        for _ in range(10):
            things = tuple((name, chance.randint(1, 2)) for name in names)
            sets = tuple((f"s{k}", chance.randint(1, GREAT), tuple(name for name in names if chance.random() < 0.8))
                         for k in range(8))
            self.right(things, sets)


class RefusalTest(unittest.TestCase):
    def refused(self, name, things, sets):
        for ask in (cover_plan, cover):
            self.assertEqual(refusal(ask, things, sets), name)

    def things(self, many):
        return tuple((f"t{k}", 0) for k in range(many))

    def sets(self, many):
        return tuple((f"s{k}", 1, ()) for k in range(many))

    def test_too_many(self):
        self.refused(None, self.things(12), self.sets(8))
        self.refused("TooGreat", self.things(13), ())
        self.refused("TooGreat", (), self.sets(9))
        self.refused("TooGreat", self.things(13), self.sets(9))

    def test_twice(self):
        self.refused("Twice", (("x", 1), ("y", 0), ("x", 2)), ())
        self.refused("Twice", (("", 1), ("", 1)), ())
        self.refused("Twice", (("x", 1),), (("a", 1, ()), ("a", 1, ("x",))))
        self.refused("Twice", (("x", 0), ("y", 0)), (("a", 1, ("y",)), ("b", 1, ("x", "y", "x"))))
        self.refused(None, (("x", 0), ("y", 0)), (("x", 1, ("x", "y")), ("y", 1, ("x", "y"))))

    def test_no_name(self):
        self.refused("NoName", (), (("a", 1, ("x",)),))
        self.refused("NoName", (("x", 0),), (("a", 1, ("x",)), ("b", 1, ("a",))))
        self.refused("NoName", (("x", 0),), (("a", 1, ("",)),))
        self.refused("NoName", (("xy", 0),), (("a", 1, ("x",)),))

    def test_two_together(self):
        doubled = (("x", 0), ("x", 0))
        strange = (("a", 1, ("q",)),)
        self.refused("TooGreat", self.things(12) + (("t0", 0),), ())
        self.refused("TooGreat", doubled, self.sets(9))
        self.refused("TooGreat", (), self.sets(8) + strange)
        self.refused("TooGreat", (), self.sets(8) + (("s0", 1, ()),))
        self.refused("Twice", doubled, strange)
        self.refused("Twice", (), strange + strange)
        # A member that comes twice and is none, and one of a set ahead of the set that has one twice.
        self.refused("Twice", (), (("a", 1, ("q", "q")),))
        self.refused("Twice", (("x", 0),), strange + (("b", 1, ("x", "x")),))


if __name__ == "__main__":
    unittest.main()
