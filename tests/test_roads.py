import unittest

from aids import is_plain, maker, same
from cutyard.roads import road, road_plan
from cutyard.settle import settled
from cutyard.walks import ring_parts, shortest_walks, walk_length, walks_from
from refusals import refusal

GREAT = 10 ** 199


def reach(roads, start):
    """All places to which a walk leads, by going on until none is new."""
    there = {start}
    while True:
        more = {to for from_, to, length in roads if from_ in there} - there
        if not more:
            return there
        there |= more


def useful_of(places, roads, start, goal):
    return [place for place in places if place in reach(roads, start) and goal in reach(roads, place)]


def ends(roads, walk, start):
    """Where the walk leads from the start; None where it is no walk from there."""
    for number in walk:
        if not 0 <= number < len(roads) or roads[number][0] != start:
            return None
        start = roads[number][1]
    return start


def length_of(roads, walk):
    return sum(roads[number][2] for number in walk)


def walk_lengths(roads, start, most):
    """All pairs (place, length) of walks of at most so many roads, the least length for each place and count."""
    layers = [{start: 0}]
    for _ in range(most):
        layer = {}
        for from_, to, length in roads:
            if from_ in layers[-1]:
                total = layers[-1][from_] + length
                layer[to] = min(total, layer.get(to, total))
        layers.append(layer)
    return layers


class RoadCase(unittest.TestCase):
    def right(self, places, roads, start, goal, word=None):
        """What is told is as [47] tells it."""
        told = road(places, roads, start, goal)
        self.assertTrue(is_plain(told))
        if word is not None:
            self.assertEqual(told[0], word)
        getattr(self, "assert_" + told[0])(places, roads, start, goal, *told[1:])
        return told

    def assert_wall(self, places, roads, start, goal, reached):
        there = reach(roads, start)
        self.assertNotIn(goal, there)
        self.assertEqual(reached, tuple(place for place in places if place in there))

    def assert_road(self, places, roads, start, goal, walk, length, heights):
        self.assertEqual(ends(roads, walk, start), goal)
        self.assertEqual(length, length_of(roads, walk))
        self.assertEqual(len(heights), len(places))
        useful = useful_of(places, roads, start, goal)
        high = dict(zip(places, heights))
        self.assertEqual([place for place in places if high[place] is not None], useful)
        for from_, to, far in roads:
            if from_ in useful and to in useful:
                self.assertLessEqual(high[to], high[from_] + far)
        self.assertEqual(high[goal] - high[start], length)

    def assert_ring(self, places, roads, start, goal, walk, ring, on):
        place = ends(roads, walk, start)
        self.assertIsNotNone(place)
        self.assertGreaterEqual(len(ring), 1)
        self.assertEqual(ends(roads, ring, place), place)
        self.assertLess(length_of(roads, ring), 0)
        self.assertEqual(ends(roads, on, place), goal)


class ByHandTest(RoadCase):
    def test_roads(self):
        places = ("home", "mill", "inn", "town")
        roads = (("home", "mill", 4), ("home", "inn", 1), ("inn", "mill", 2), ("mill", "town", 5), ("inn", "town", 9))
        told = self.right(places, roads, "home", "town")
        self.assertTrue(same(told[:3], ("road", (1, 2, 3), 8)))
        # Not back.
        self.assertTrue(same(self.right(places, roads, "mill", "home"), ("wall", ("mill", "town"))))
        self.assertTrue(same(self.right(places, roads, "town", "inn"), ("wall", ("town",))))
        # The home isn't useful on the way from the inn, the inn not on the way from the mill.
        told = self.right(places, roads, "inn", "town", "road")
        self.assertEqual([height is None for height in told[3]], [True, False, False, False])
        told = self.right(places, roads, "mill", "town", "road")
        self.assertEqual([height is None for height in told[3]], [True, False, True, False])

    def test_the_goal_is_the_start(self):
        self.assertTrue(same(self.right(("a",), (), "a", "a")[:3], ("road", (), 0)))
        roads = (("a", "b", 3), ("b", "a", -3), ("b", "c", 1))
        told = self.right(("a", "b", "c"), roads, "a", "a", "road")
        self.assertTrue(same(told[:3], ("road", (), 0)))
        self.assertIsNone(told[3][2])
        roads = (("a", "b", 3), ("b", "a", -4))
        self.right(("a", "b"), roads, "a", "a", "ring")
        self.right(("a",), (("a", "a", 0), ("a", "a", 5)), "a", "a", "road")

    def test_several_roads_between_the_same_places(self):
        roads = (("a", "b", 3), ("a", "b", 1), ("a", "b", 2), ("b", "b", 0), ("a", "a", 7))
        told = self.right(("a", "b"), roads, "a", "b")
        self.assertTrue(same(told[:3], ("road", (1,), 1)))
        self.assertTrue(same(told[3][1] - told[3][0], 1))

    def test_lengths_below_0(self):
        roads = (("a", "b", -3), ("b", "c", -GREAT), ("a", "c", -5), ("c", "b", GREAT))
        told = self.right(("c", "b", "a"), roads, "a", "c")
        self.assertTrue(same(told[:3], ("road", (0, 1), -3 - GREAT)))
        roads = (("a", "b", -3), ("b", "c", -GREAT), ("a", "c", -5), ("c", "b", GREAT - 1))
        self.right(("c", "b", "a"), roads, "a", "c", "ring")

    def test_rings(self):
        # At the start, at the goal, of one road, between.
        roads = (("a", "b", 1), ("b", "c", 1), ("c", "d", 1))
        places = ("a", "b", "c", "d")
        told = self.right(places, roads + (("a", "a", -1),), "a", "d", "ring")
        self.assertEqual(told[2], (3,))
        told = self.right(places, roads + (("d", "d", -1),), "a", "d", "ring")
        self.assertEqual((told[2], told[3]), ((3,), ()))
        self.right(places, roads + (("b", "a", -2),), "a", "d", "ring")
        self.right(places, roads + (("d", "c", -2),), "a", "d", "ring")
        self.right(places, roads + (("d", "a", -4),), "a", "d", "ring")
        self.right(places, roads + (("d", "a", -3),), "a", "d", "road")
        self.right(places, roads + (("c", "b", -GREAT),), "a", "d", "ring")

    def test_rings_that_lie_on_no_way(self):
        # One that isn't reached, and one that doesn't lead to the goal.
        roads = (("a", "b", 2), ("x", "x", -1), ("x", "a", 0))
        told = self.right(("a", "b", "x"), roads, "a", "b")
        self.assertTrue(same(told[:3], ("road", (0,), 2)))
        roads = (("a", "b", 2), ("a", "x", 0), ("x", "y", -3), ("y", "x", 1), ("b", "x", 0))
        told = self.right(("x", "a", "b", "y"), roads, "a", "b", "road")
        self.assertEqual([height is None for height in told[3]], [True, False, False, True])
        # With no way at all rings don't count.
        self.assertTrue(same(self.right(("b", "x", "a"), (("a", "x", 1), ("x", "x", -1)), "a", "b"),
                             ("wall", ("x", "a"))))

    def test_long_walks(self):
        places = tuple("abcdefgh")
        chain = tuple((places[k], places[k + 1], 5) for k in range(7))
        told = self.right(places, chain, "a", "h")
        self.assertTrue(same(told[:3], ("road", tuple(range(7)), 35)))
        told = self.right(places, chain[::-1] + (("a", "h", 36),), "a", "h")
        self.assertTrue(same(told[:3], ("road", (6, 5, 4, 3, 2, 1, 0), 35)))
        told = self.right(places, chain + (("h", "a", -36),), "a", "h", "ring")
        self.assertEqual(len(told[2]), 8)
        self.right(places, chain[::-1] + (("h", "a", -35),), "a", "h", "road")

    def test_names(self):
        roads = (("", "a", 1), ("a", "aa", 1), ("aa", " ", 1))
        told = self.right(("aa", "a", "", " "), roads, "", " ")
        self.assertTrue(same(told[:3], ("road", (0, 1, 2), 3)))


class PlanTest(unittest.TestCase):
    def test_part_by_part(self):
        places = ("a", "dead", "b", "c", "far")
        roads = (("a", "b", 4), ("a", "dead", 1), ("b", "c", -2), ("b", "b", 3), ("far", "c", 1), ("c", "a", 0),
                 ("dead", "dead", -9))
        plan = road_plan(places, roads, "a", "c")
        self.assertTrue(same(plan[0], ((0, None), (0, None), (0, None))))
        self.assertTrue(same(plan[1], (((1, -1, 0), -4), ((0, 1, -1), 2), ((0, 0, 0), -3), ((-1, 0, 1), 0))))
        self.assertTrue(same(plan[2], (-1, 0, 1)))
        self.assertEqual(len(plan), 3)
        self.assertTrue(same(road_plan(places, roads, "b", "b")[2], (0, 0, 0)))
        self.assertTrue(same(road_plan(places, roads, "c", "b")[2], (0, 1, -1)))

    def test_no_way(self):
        self.assertTrue(same(road_plan(("a", "b"), (), "a", "b"), ((), (), ())))
        self.assertTrue(same(road_plan(("a", "b"), (("b", "a", 1), ("a", "a", -1)), "a", "b"), ((), (), ())))

    def test_the_goal_is_the_start(self):
        self.assertTrue(same(road_plan(("b", "a"), (), "a", "a"), (((0, None),), (), (0,))))
        self.assertTrue(same(road_plan(("a",), (("a", "a", 5), ("a", "a", -5)), "a", "a"),
                             (((0, None),), (((0,), -5), ((0,), 5)), (0,))))


def made_roads(chance):
    places = tuple(("", "a", "aa", "b", "c", "d", "e", "f")[:chance.randint(1, 8)])
    low = chance.choice((0, -1, -3, -9))
    roads = tuple((chance.choice(places), chance.choice(places), chance.randint(low, 9))
                  for _ in range(chance.randint(0, 12)))
    return places, roads, chance.choice(places), chance.choice(places)


class MadeUpTest(RoadCase):
    def setUp(self):
        chance = maker(430)
        self.cases = [made_roads(chance) for _ in range(900)]

    def test_each_is_true(self):
        words = [self.right(*case)[0] for case in self.cases]
        for word in ("wall", "road", "ring"):
            self.assertGreater(words.count(word), 70)

    def test_no_shorter_walk(self):
        for places, roads, start, goal in self.cases:
            told = road(places, roads, start, goal)
            if told[0] == "road":
                lengths = [layer[goal] for layer in walk_lengths(roads, start, 12) if goal in layer]
                self.assertEqual(told[2], min(lengths))

    def test_against_the_plan(self):
        words = []
        for places, roads, start, goal in self.cases[:400]:
            told = road(places, roads, start, goal)
            plan = road_plan(places, roads, start, goal)
            self.assertTrue(is_plain(plan))
            verdict = settled(plan)
            words.append(verdict[0])
            if told[0] == "wall":
                self.assertEqual(plan, ((), (), ()))
                continue
            useful = useful_of(places, roads, start, goal)
            self.assertEqual(len(plan[0]), len(useful))
            self.assertEqual(len(plan[1]), len([leg for leg in roads if leg[0] in useful and leg[1] in useful]))
            self.assertEqual(verdict[0], "best" if told[0] == "road" else "none")
            if told[0] == "road":
                self.assertEqual(sum(a * b for a, b in zip(plan[2], verdict[1])), told[2])
        self.assertGreater(words.count("none"), 30)


class WalksTest(unittest.TestCase):
    def test_walks_from(self):
        roads = (("a", "b", 1), ("b", "c", 1), ("c", "a", 1), ("d", "a", 1))
        self.assertEqual(walks_from(roads, "a"), {"a": (), "b": (0,), "c": (0, 1)})
        self.assertEqual(walks_from((), "a"), {"a": ()})

    def test_lengths(self):
        roads = (("a", "b", 1), ("b", "a", -5))
        self.assertEqual(walk_length(roads, (0, 1, 0)), -3)
        self.assertEqual(walk_length(roads, ()), 0)

    def test_ring_parts(self):
        roads = (("a", "b", 1), ("b", "c", 1), ("c", "b", 1), ("b", "b", 1))
        self.assertEqual(ring_parts(roads, "a", (0, 1, 2, 3)), ((0,), (1, 2)))
        self.assertEqual(ring_parts(roads, "a", (0, 3, 1)), ((0,), (3,)))
        self.assertEqual(ring_parts(roads, "b", (3,)), ((), (3,)))
        self.assertIsNone(ring_parts(roads, "a", (0, 1)))

    def test_shortest_walks(self):
        roads = (("a", "b", 4), ("a", "c", 1), ("c", "b", 2), ("x", "b", -9))
        self.assertEqual(shortest_walks(roads, ("a", "b", "c"), "a"), ("short", {"a": (), "b": (1, 2), "c": (1,)}))
        roads += (("b", "c", -3),)
        self.assertEqual(shortest_walks(roads, ("a", "b", "c"), "a")[0], "ring")
        self.assertEqual(shortest_walks(roads, ("a", "b"), "a"), ("short", {"a": (), "b": (0,)}))


class RefusalTest(unittest.TestCase):
    def refused(self, name, *parts):
        for ask in (road_plan, road):
            self.assertEqual(refusal(ask, *parts), name)

    def test_too_many(self):
        places = tuple("abcdefghi")
        roads = (("a", "b", 1),) * 13
        self.refused(None, places[:8], roads[:12], "a", "b")
        self.refused("TooGreat", places, (), "a", "b")
        self.refused("TooGreat", places[:2], roads, "a", "b")

    def test_twice(self):
        self.refused("Twice", ("a", "b", "a"), (), "a", "b")
        self.refused("Twice", ("", ""), (), "", "")

    def test_no_name(self):
        places = ("a", "b")
        self.refused("NoName", places, (("q", "a", 1),), "a", "b")
        self.refused("NoName", places, (("a", "b", 1), ("a", "q", 1)), "a", "b")
        self.refused("NoName", places, (), "q", "b")
        self.refused("NoName", places, (), "a", "q")
        self.refused("NoName", (), (), "a", "a")
        self.refused("NoName", ("ab",), (), "a", "ab")
        self.refused("NoName", ("ab",), (), "ab", "")

    def test_two_together(self):
        self.refused("TooGreat", tuple("abcdefgha"), (), "a", "b")
        self.refused("TooGreat", ("a", "a"), (("a", "a", 1),) * 13, "a", "a")
        self.refused("TooGreat", tuple("abcdefghi"), (), "q", "b")
        self.refused("TooGreat", ("a",), (("q", "a", 1),) * 13, "a", "a")
        self.refused("Twice", ("a", "a"), (("a", "q", 1),), "a", "a")
        self.refused("Twice", ("a", "a"), (), "q", "a")
        self.refused("Twice", ("a", "a"), (), "a", "q")


if __name__ == "__main__":
    unittest.main()
