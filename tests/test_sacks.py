import itertools
import unittest

from aids import dot, is_plain, maker, meets_all, same
from cutyard.plans import givens
from cutyard.sacks import sack, sack_plan
from cutyard.settle import settled
from refusals import refusal

GREAT = 10 ** 199


def fits(limits, kinds, counts):
    if any(count < 0 for count in counts):
        return False
    if any(kind[2] is not None and count > kind[2] for kind, count in zip(kinds, counts)):
        return False
    return all(sum(kind[3][k] * count for kind, count in zip(kinds, counts)) <= room
               for k, (name, room) in enumerate(limits))


def worth_of(kinds, counts):
    return sum(kind[1] * count for kind, count in zip(kinds, counts))


def most_of(limits, kind):
    """How many pieces of a kind need be tried: by its most, by each room; none where it isn't worth anything."""
    if kind[1] <= 0:
        return 0
    tops = [room // weight for (name, room), weight in zip(limits, kind[3]) if weight > 0]
    return min(tops + ([] if kind[2] is None else [kind[2]]))


def endless_of(kinds):
    return [kind[0] for kind in kinds if kind[2] is None and kind[1] > 0 and not any(kind[3])]


class SackCase(unittest.TestCase):
    def right(self, limits, kinds, slow=True):
        """What is told is as [41] tells it."""
        told = sack(limits, kinds)
        self.assertTrue(is_plain(told))
        endless = endless_of(kinds)
        if endless:
            self.assertEqual(told, ("endless", endless[0]))
            return told
        word, counts, worth = told
        self.assertEqual(word, "best")
        self.assertEqual(len(counts), len(kinds))
        self.assertTrue(fits(limits, kinds, counts))
        self.assertEqual(worth, worth_of(kinds, counts))
        if slow:
            ranges = [range(most_of(limits, kind) + 1) for kind in kinds]
            best = max(worth_of(kinds, counts) for counts in itertools.product(*ranges) if fits(limits, kinds, counts))
            self.assertEqual(worth, best)
        return told


class ByHandTest(SackCase):
    def test_one_is_best(self):
        limits = (("weight", 10), ("room", 7))
        kinds = (("gold", 10, 1, (6, 1)), ("iron", 3, None, (2, 2)), ("feather", 1, 4, (0, 1)))
        self.assertTrue(same(self.right(limits, kinds), ("best", (1, 2, 2), 18)))
        self.assertTrue(same(self.right(limits, kinds[::-1]), ("best", (2, 2, 1), 18)))

    def test_nothing(self):
        self.assertTrue(same(sack((), ()), ("best", (), 0)))
        self.assertTrue(same(sack((("weight", 0),), ()), ("best", (), 0)))
        self.assertTrue(same(sack((), (("a", 3, 4, ()),)), ("best", (4,), 12)))
        self.assertTrue(same(sack((), (("a", 3, 0, ()),)), ("best", (0,), 0)))

    def test_worths_of_0_and_below(self):
        limits = (("weight", 10),)
        self.assertTrue(same(self.right(limits, (("a", -3, None, (0,)), ("b", 2, None, (3,)))), ("best", (0, 3), 6)))
        self.assertEqual(self.right(limits, (("a", 0, None, (0,)),))[2], 0)
        self.assertEqual(self.right((), (("a", 0, None, ()), ("b", -1, None, ())))[2], 0)

    def test_a_kind_without_end(self):
        limits = (("weight", 10), ("room", 0))
        heavy = ("heavy", 5, None, (1, 0))
        light = ("light", 1, None, (0, 0))
        airy = ("airy", 7, None, (0, 0))
        self.assertTrue(same(self.right(limits, (heavy, light, airy)), ("endless", "light")))
        self.assertTrue(same(self.right(limits, (heavy, airy, light)), ("endless", "airy")))
        self.assertTrue(same(self.right(limits, (heavy, ("bad", -1, None, (0, 0)), ("idle", 0, None, (0, 0)),
                                                 ("few", 9, 2, (0, 0)), light)), ("endless", "light")))
        self.assertTrue(same(self.right(limits, (heavy, ("few", 9, 2, (0, 0)))), ("best", (10, 2), 68)))
        self.assertTrue(same(self.right((), (("", 1, None, ()),)), ("endless", "")))

    def test_rooms_of_0(self):
        self.assertTrue(same(self.right((("room", 0),), (("a", 5, None, (1,)), ("b", 1, 3, (0,)))), ("best", (0, 3), 3)))

    def test_names(self):
        limits = (("", 5), ("a", 6), ("aa", 7))
        kinds = (("a", 1, None, (1, 2, 3)), ("", 1, None, (2, 1, 1)), ("a a", 1, None, (1, 1, 1)))
        self.assertEqual(self.right(limits, kinds)[2], 5)


class PlanTest(unittest.TestCase):
    def test_part_by_part(self):
        limits = (("weight", 10), ("room", 0))
        kinds = (("a", 5, None, (1, 2)), ("b", -3, 4, (0, 7)), ("c", 0, 0, (3, 0)))
        plan = sack_plan(limits, kinds)
        self.assertTrue(same(plan[0], ((0, None), (0, 4), (0, 0))))
        self.assertTrue(same(plan[1], (((-1, 0, -3), -10), ((-2, -7, 0), 0))))
        self.assertTrue(same(plan[2], (5, -3, 0)))
        self.assertEqual(len(plan), 3)

    def test_nothing(self):
        self.assertTrue(same(sack_plan((), ()), ((), (), ())))
        self.assertTrue(same(sack_plan((("x", 2),), ()), ((), (((), -2),), ())))
        self.assertTrue(same(sack_plan((), (("x", 2, None, ()),)), (((0, None),), (), (2,))))

    def test_made_up(self):
        chance = maker(411)
        for _ in range(150):
            limits, kinds = made_sack(chance)
            plan = sack_plan(limits, kinds)
            self.assertTrue(is_plain(plan))
            self.assertEqual([len(part) for part in plan], [len(kinds), len(limits), len(kinds)])
            for counts in itertools.product(range(-1, 3), repeat=len(kinds)):
                self.assertEqual(meets_all(givens(plan), counts), fits(limits, kinds, counts))
                self.assertEqual(dot(plan[2], counts), worth_of(kinds, counts))


def made_sack(chance):
    limits = tuple((name, chance.randint(0, 12)) for name in ("", "a", "aa")[:chance.randint(0, 3)])
    kinds = tuple((name, chance.randint(-2, 9), chance.choice((None, None, 0, 1, 4)),
                   tuple(chance.choice((0, 1, 2, 3, 5)) for _ in limits))
                  for name in ("a", "", "b", "ab")[:chance.randint(0, 4)])
    return limits, kinds


class MadeUpTest(SackCase):
    def test_against_all_counts(self):
        chance = maker(410)
        words = {"best": 0, "endless": 0}
        for _ in range(400):
            limits, kinds = made_sack(chance)
            told = self.right(limits, kinds)
            words[told[0]] += 1
            self.assertEqual(settled(sack_plan(limits, kinds))[0], told[0])
        self.assertGreater(min(words.values()), 50)

    def test_many_figures(self):
        chance = maker(412)
        for _ in range(6):
            limits = tuple((f"l{k}", chance.randint(GREAT // 2, GREAT)) for k in range(2))
            kinds = tuple((f"k{k}", chance.randint(-GREAT // 3, GREAT), chance.choice((None, 3, GREAT)),
                           tuple(chance.randint(GREAT // 20, GREAT // 3) for _ in limits)) for k in range(3))
            self.right(limits, kinds)

    def test_twelve_limits_and_eight_kinds(self):
        chance = maker(413)
        for _ in range(5):
            limits = tuple((f"l{k}", chance.randint(20, 90)) for k in range(12))
            kinds = tuple((f"k{k}", chance.randint(1, 50), None, tuple(chance.randint(1, 30) for _ in limits))
                          for k in range(8))
            self.right(limits, kinds)


class RefusalTest(unittest.TestCase):
    def refused(self, name, limits, kinds):
        for ask in (sack_plan, sack):
            self.assertEqual(refusal(ask, limits, kinds), name)

    def limits(self, many):
        return tuple((f"l{k}", 5) for k in range(many))

    def kinds(self, many, limits=0):
        return tuple((f"k{k}", 1, 1, (1,) * limits) for k in range(many))

    def test_too_many(self):
        self.refused(None, self.limits(12), self.kinds(8, 12))
        self.refused("TooGreat", self.limits(13), ())
        self.refused("TooGreat", (), self.kinds(9))
        self.refused("TooGreat", self.limits(13), self.kinds(9, 13))

    def test_twice(self):
        self.refused("Twice", (("x", 1), ("y", 0), ("x", 2)), ())
        self.refused("Twice", (("", 1), ("", 1)), ())
        self.refused("Twice", (), (("a", 1, 1, ()), ("b", 1, 1, ()), ("a", 2, None, ())))
        self.refused(None, (("x", 1), ("y", 0)), (("x", 1, 1, (1, 1)), ("y", 1, 1, (1, 1))))

    def test_below_nought(self):
        self.refused("BelowNought", (("x", 0), ("y", -1)), ())
        self.refused("BelowNought", (), (("a", 1, None, ()), ("b", 1, -1, ())))
        self.refused("BelowNought", (("x", 0), ("y", 1)), (("a", 1, None, (0, 0)), ("b", 1, 0, (3, -1))))
        self.refused("BelowNought", (("x", -GREAT),), ())
        self.refused(None, (("x", 0),), (("a", -1, 0, (0,)),))

    def test_two_together(self):
        below = (("q", -1),)
        doubled = (("a", 1, 1, ()), ("a", 1, 1, ()))
        self.refused("TooGreat", self.limits(12) + (("l0", 1),), ())
        self.refused("TooGreat", self.limits(12) + below, ())
        self.refused("TooGreat", below, self.kinds(9, 1))
        self.refused("TooGreat", (), self.kinds(7) + doubled)
        self.refused("Twice", below + below, ())
        self.refused("Twice", (), (("a", 1, -1, ()), ("a", 1, 1, ())))
        self.refused("Twice", below, (("a", 1, 1, (1,)), ("a", 1, 1, (1,))))
        self.refused("Twice", (("x", 1), ("x", 1)), (("a", 1, 1, (-1, 0)),))
        # An endless kind doesn't hide what is refused.
        self.refused("BelowNought", (("x", -1),), (("a", 1, None, (0,)),))


if __name__ == "__main__":
    unittest.main()
