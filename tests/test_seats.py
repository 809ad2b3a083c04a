import itertools
import unittest

from aids import dot, is_plain, maker, meets_all, same
from cutyard.plans import givens
from cutyard.seats import crowded_group, seat_plan, seating
from cutyard.settle import settled
from refusals import refusal

GREAT = 10 ** 199


def seatings(guests, seats, offers):
    """All seatings, each a tuple of offers, one for each guest."""
    for choice in itertools.product(*[[offer for offer in offers if offer[0] == guest] for guest in guests]):
        if len({offer[1] for offer in choice}) == len(guests):
            yield choice


class SeatCase(unittest.TestCase):
    def right(self, guests, seats, offers, slow=True):
        """What is told is as [44] tells it."""
        told = seating(guests, seats, offers)
        self.assertTrue(is_plain(told))
        if told[0] == "none":
            self.assertEqual(len(told), 2)
            self.assert_group(guests, offers, told[1])
        else:
            self.assertEqual((told[0], len(told)), ("best", 5))
            self.assert_best(guests, seats, offers, *told[1:])
        if slow:
            joys = [sum(offer[2] for offer in choice) for choice in seatings(guests, seats, offers)]
            self.assertEqual(told[0], "best" if joys else "none")
            if joys:
                self.assertEqual(told[2], max(joys))
        return told

    def assert_group(self, guests, offers, group):
        self.assertEqual(tuple(guest for guest in guests if guest in group), group)
        seats = {seat for guest, seat, joy in offers if guest in group}
        self.assertLess(len(seats), len(group))

    def assert_best(self, guests, seats, offers, taken, joy, guest_prices, seat_prices):
        joys = {(guest, seat): number for guest, seat, number in offers}
        self.assertEqual(len(taken), len(guests))
        self.assertEqual(len(set(taken)), len(guests))
        self.assertTrue(all((guest, seat) in joys for guest, seat in zip(guests, taken)))
        self.assertEqual(sum(joys[pair] for pair in zip(guests, taken)), joy)
        self.assertEqual((len(guest_prices), len(seat_prices)), (len(guests), len(seats)))
        self.assertTrue(all(price >= 0 for price in seat_prices))
        for guest, seat, number in offers:
            self.assertGreaterEqual(guest_prices[guests.index(guest)] + seat_prices[seats.index(seat)], number)
        self.assertEqual(sum(guest_prices) + sum(seat_prices), joy)


class ByHandTest(SeatCase):
    def test_one_seating_is_best(self):
        guests, seats = ("ann", "ben"), ("left", "right", "door")
        offers = (("ann", "left", 5), ("ann", "right", 4), ("ben", "left", 5), ("ben", "right", 1))
        told = self.right(guests, seats, offers)
        self.assertTrue(same(told[:3], ("best", ("right", "left"), 9)))
        # Nobody sits at the door.
        self.assertTrue(same(told[4][2], 0))
        told = self.right(guests[::-1], seats[::-1], offers)
        self.assertTrue(same(told[:3], ("best", ("left", "right"), 9)))

    def test_joys_below_0(self):
        told = self.right(("a", "b"), ("s", "t"), (("a", "s", -5), ("a", "t", -9), ("b", "s", -1), ("b", "t", -2)))
        self.assertTrue(same(told[:3], ("best", ("s", "t"), -7)))
        # All must sit, whatever the joy.
        told = self.right(("a",), ("s", "t"), (("a", "t", -GREAT),))
        self.assertTrue(same(told[:3], ("best", ("t",), -GREAT)))

    def test_no_guests(self):
        self.assertTrue(same(self.right((), (), ()), ("best", (), 0, (), ())))
        self.assertTrue(same(self.right((), ("s", "t"), ()), ("best", (), 0, (), (0, 0))))

    def test_no_offers(self):
        self.assertEqual(self.right(("a", "b"), ("s", "t"), ())[0], "none")
        self.assertTrue(same(self.right(("a",), (), ()), ("none", ("a",))))
        self.assertEqual(self.right(("", "a", "b", "c", "d", "e"), (), ())[0], "none")

    def test_groups_of_one(self):
        offers = (("a", "s", 1), ("a", "t", 1), ("c", "s", 1))
        self.assertTrue(same(self.right(("a", "b", "c"), ("s", "t", "u"), offers), ("none", ("b",))))
        self.assertTrue(same(self.right(("b", "a"), ("s", "t"), offers[:2]), ("none", ("b",))))

    def test_groups_of_several(self):
        # Three on two seats; the others have room enough.
        offers = (("a", "s", 1), ("c", "s", 2), ("c", "t", 3), ("d", "t", 1), ("b", "u", 5), ("b", "v", 5))
        told = self.right(("a", "b", "c", "d"), ("s", "t", "u", "v"), offers)
        self.assertTrue(same(told, ("none", ("a", "c", "d"))))
        told = self.right(("d", "b", "c", "a"), ("s", "t", "u", "v"), offers)
        self.assertTrue(same(told, ("none", ("d", "c", "a"))))
        told = self.right(("a", "b"), ("s", "t"), (("a", "s", 9), ("b", "s", -9)))
        self.assertTrue(same(told, ("none", ("a", "b"))))

    def test_names(self):
        # Without signs, one a beginning of another, guests named like seats.
        guests = ("", "a", "aa")
        seats = ("aa", "", "a")
        offers = (("", "a", 3), ("", "", 1), ("a", "a", 3), ("a", "aa", 1), ("aa", "aa", 3), ("aa", "", 1))
        told = self.right(guests, seats, offers)
        self.assertTrue(same(told[:3], ("best", ("", "a", "aa"), 7)))
        self.assertTrue(same(self.right(("",), ("",), ()), ("none", ("",))))

    def test_many_figures(self):
        offers = (("a", "s", GREAT), ("a", "t", GREAT - 1), ("b", "s", 3 - GREAT), ("b", "t", 1 - GREAT))
        told = self.right(("a", "b"), ("s", "t"), offers)
        self.assertTrue(same(told[:3], ("best", ("t", "s"), 2)))


class GroupTest(unittest.TestCase):
    def test_groups_by_the_heights_of_prices(self):
        offers = (("a", "s", 1), ("b", "s", 1), ("c", "t", 1), ("c", "u", 1))
        self.assertEqual(crowded_group(("a", "b", "c"), offers, (-2, -2, -1)), ("a", "b"))
        self.assertEqual(crowded_group(("a", "b", "c"), offers, (-1, -2, 0)), ("a", "b"))
        # Among the highest alone no group is crowded.
        self.assertEqual(crowded_group(("a", "b", "c"), offers[:3], (-1, -1, -3)), ("a", "b", "c"))


class PlanTest(unittest.TestCase):
    def test_part_by_part(self):
        offers = (("b", "s", 5), ("a", "t", -3), ("b", "t", 0))
        plan = seat_plan(("a", "b"), ("s", "t", "u"), offers)
        self.assertTrue(same(plan[0], ((0, None), (0, None), (0, None))))
        self.assertTrue(same(plan[1], (((0, 1, 0), 1), ((0, -1, 0), -1), ((1, 0, 1), 1), ((-1, 0, -1), -1),
                                       ((-1, 0, 0), -1), ((0, -1, -1), -1), ((0, 0, 0), -1))))
        self.assertTrue(same(plan[2], (5, -3, 0)))
        self.assertEqual(len(plan), 3)

    def test_nothing(self):
        self.assertTrue(same(seat_plan((), (), ()), ((), (), ())))
        self.assertTrue(same(seat_plan(("a",), (), ()), ((), (((), 1), ((), -1)), ())))
        self.assertTrue(same(seat_plan((), ("s",), ()), ((), (((), -1),), ())))

    def test_made_up(self):
        chance = maker(421)
        for _ in range(100):
            guests, seats, offers = made_seats(chance)
            plan = seat_plan(guests, seats, offers)
            self.assertTrue(is_plain(plan))
            joys = {}
            for choice in seatings(guests, seats, offers):
                joys[tuple(int(offer in choice) for offer in offers)] = sum(offer[2] for offer in choice)
            for spot in itertools.product((0, 1), repeat=len(offers)):
                self.assertEqual(meets_all(givens(plan), spot), spot in joys)
                if spot in joys:
                    self.assertEqual(dot(plan[2], spot), joys[spot])


SIZES = ((1, 1), (1, 5), (2, 2), (2, 4), (3, 3), (3, 6), (4, 4), (4, 3), (5, 2), (2, 8), (0, 3), (3, 2))


def made_seats(chance):
    many, seat_count = chance.choice(SIZES)
    guests = tuple(("", "a", "aa", "b", "c")[:many])
    seats = tuple(("a", "", "s", "t", "aa", "u", "v", "w")[:seat_count])
    pairs = [(guest, seat) for guest in guests for seat in seats]
    chance.shuffle(pairs)
    size = chance.choice((3, 20, GREAT))
    offers = [pair + (chance.randint(-size, size),) for pair in pairs[:chance.randint(0, 8)]]
    return guests, seats, tuple(offers)


class MadeUpTest(SeatCase):
    def test_against_all_seatings(self):
        chance = maker(420)
        words = {"best": 0, "none": 0}
        for _ in range(600):
            guests, seats, offers = made_seats(chance)
            told = self.right(guests, seats, offers)
            words[told[0]] += 1
            verdict = settled(seat_plan(guests, seats, offers))
            self.assertEqual(verdict[0], told[0])
            if told[0] == "best":
                self.assertEqual(dot([offer[2] for offer in offers], verdict[1]), told[2])
        self.assertGreater(min(words.values()), 150)

    def test_full_tables(self):
        # Four guests and four seats, just one offer short of room for all.
        chance = maker(422)
        words = []
        for _ in range(300):
            guests, seats = ("a", "b", "c", "d"), ("s", "t", "u", "v")
            pairs = [(guest, seat) for guest in guests for seat in seats]
            offers = tuple(pair + (chance.randint(-9, 9),) for pair in chance.sample(pairs, 8))
            words.append(self.right(guests, seats, offers)[0])
        self.assertGreater(min(words.count("best"), words.count("none")), 40)


class RefusalTest(unittest.TestCase):
    def refused(self, name, guests, seats, offers):
        for ask in (seat_plan, seating):
            self.assertEqual(refusal(ask, guests, seats, offers), name)

    def test_too_many(self):
        guests, seats = ("a", "b", "c"), ("s", "t", "u", "v", "w", "x")
        offers = tuple((guest, seat, 1) for guest in guests for seat in seats)
        self.refused(None, guests, seats, offers[:8])
        self.refused("TooGreat", guests, seats, offers[:9])
        self.refused("TooGreat", guests, seats + ("y",), ())
        self.refused("TooGreat", guests + ("d",), seats, ())
        self.refused(None, guests * 0, tuple("abcdefghijkl"), ())
        self.refused("TooGreat", (), tuple("abcdefghijklm"), ())
        self.refused(None, tuple("abcdef"), (), ())
        self.refused("TooGreat", tuple("abcdef"), ("s",), ())
        self.refused("TooGreat", tuple("abcdefg"), (), ())

    def test_twice(self):
        self.refused("Twice", ("a", "b", "a"), (), ())
        self.refused("Twice", ("", ""), (), ())
        self.refused("Twice", (), ("s", "t", "s"), ())
        self.refused("Twice", ("a",), ("s",), (("a", "s", 1), ("a", "s", 2)))
        self.refused(None, ("a", "s"), ("s", "a"), (("a", "s", 1), ("s", "a", 1), ("a", "a", 1), ("s", "s", 1)))
        # Names that run into one another are unlike.
        self.refused(None, ("a", "ab"), ("c", "bc"), (("a", "bc", 1), ("ab", "c", 1)))

    def test_no_name(self):
        self.refused("NoName", ("a",), ("s",), (("b", "s", 1),))
        self.refused("NoName", ("a",), ("s",), (("a", "t", 1),))
        self.refused("NoName", ("a",), ("s",), (("s", "a", 1),))
        self.refused("NoName", ("a",), ("s",), (("a", "s", 1), ("", "s", 1)))
        self.refused("NoName", ("ab",), ("s",), (("a", "s", 1),))

    def test_two_together(self):
        many = tuple(("q", "s", 1) for _ in range(9))
        self.refused("TooGreat", ("a", "a"), ("s",), many)
        self.refused("TooGreat", tuple("abcdefa"), (), ())
        self.refused("TooGreat", (), tuple("abcdefghijkla"), ())
        self.refused("TooGreat", ("q",), ("s",), many)
        self.refused("Twice", ("a", "a"), ("s",), (("q", "s", 1),))
        self.refused("Twice", ("a",), ("s", "s"), (("a", "t", 1),))
        self.refused("NoName", ("a",), ("s",), (("a", "s", 1), ("a", "s", 1), ("q", "s", 1)))
        self.refused("NoName", ("a",), ("s",), (("q", "s", 1), ("q", "s", 1)))


if __name__ == "__main__":
    unittest.main()
