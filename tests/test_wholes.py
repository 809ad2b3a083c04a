import math
import unittest
from fractions import Fraction

from aids import is_plain, is_whole, maker, numbers, same
from cutyard.errors import NoNumber
from cutyard.wholes import common, lowest, up

GREAT = 10 ** 400 + 267


class CommonTest(unittest.TestCase):
    def asked(self, handed, told):
        self.assertTrue(same(common(handed), told), handed)

    def test_of_none_and_of_noughts(self):
        self.asked((), 0)
        self.asked((0,), 0)
        self.asked((0, 0, 0), 0)

    def test_of_one_number(self):
        self.asked((1,), 1)
        self.asked((7,), 7)
        self.asked((-7,), 7)

    def test_of_either_sign(self):
        self.asked((6, -4), 2)
        self.asked((-6, -4), 2)
        self.asked((-6, 4), 2)
        self.asked((-1, 5), 1)

    def test_noughts_count_for_nothing(self):
        self.asked((0, 6), 6)
        self.asked((6, 0), 6)
        self.asked((0, -6, 0, 9, 0), 3)

    def test_of_several(self):
        self.asked((12, 18, 30), 6)
        self.asked((6, 10, 15), 1)

    def test_of_hundreds_of_figures(self):
        self.asked((GREAT * 6, -GREAT * 10, GREAT * 15), GREAT)
        self.asked((GREAT, GREAT + 1), 1)
        self.asked((3 ** 900 * 2, 3 ** 901), 3 ** 900)

    def test_of_made_up_numbers(self):
        chance = maker(5)
        for _ in range(300):
            handed = tuple(number * chance.randint(1, 12) for number in numbers(chance, chance.randint(0, 5), 40))
            self.asked(handed, math.gcd(*handed))

    def test_of_great_made_up_numbers(self):
        chance = maker(6)
        for _ in range(20):
            factor = chance.randint(1, 10 ** 300)
            handed = tuple(factor * number for number in numbers(chance, 3, 10 ** 200))
            self.asked(handed, math.gcd(*handed))


class UpTest(unittest.TestCase):
    def asked(self, top, bottom, told):
        self.assertTrue(same(up(top, bottom), told), (top, bottom))

    def test_at_multiples(self):
        self.asked(0, 3, 0)
        self.asked(6, 3, 2)
        self.asked(-6, 3, -2)
        self.asked(5, 1, 5)
        self.asked(-5, 1, -5)

    def test_between_multiples(self):
        self.asked(1, 3, 1)
        self.asked(5, 3, 2)
        self.asked(7, 3, 3)
        self.asked(-1, 3, 0)
        self.asked(-5, 3, -1)
        self.asked(-7, 3, -2)

    def test_of_great_numbers(self):
        self.asked(GREAT * GREAT, GREAT, GREAT)
        self.asked(GREAT * GREAT + 1, GREAT, GREAT + 1)
        self.asked(GREAT * GREAT - 1, GREAT, GREAT)
        self.asked(-GREAT * GREAT + 1, GREAT, 1 - GREAT)
        self.asked(-GREAT * GREAT - 1, GREAT, -GREAT)

    def test_it_is_the_least_that_is_not_below(self):
        for top in range(-30, 31):
            for bottom in range(1, 9):
                told = up(top, bottom)
                self.assertTrue(is_whole(told))
                self.assertGreaterEqual(told, Fraction(top, bottom))
                self.assertLess(told - 1, Fraction(top, bottom))

    def test_bottoms_below_1_are_refused(self):
        for bottom in (0, -1, -2, -GREAT):
            for top in (-3, 0, 4):
                with self.subTest(f"{top} {bottom}"):
                    with self.assertRaises(NoNumber):
                        up(top, bottom)


class LowestTest(unittest.TestCase):
    def asked(self, tops, bottom, told):
        self.assertTrue(same(lowest(tops, bottom), told), (tops, bottom))

    def test_of_no_tops(self):
        self.asked((), 1, ((), 1))
        self.asked((), 12, ((), 1))

    def test_of_noughts(self):
        self.asked((0,), 5, ((0,), 1))
        self.asked((0, 0), 12, ((0, 0), 1))

    def test_with_a_common_divisor(self):
        self.asked((6, -9), 3, ((2, -3), 1))
        self.asked((6, -8), 10, ((3, -4), 5))
        self.asked((0, 4), 6, ((0, 2), 3))
        self.asked((-4,), 8, ((-1,), 2))

    def test_without_a_common_divisor(self):
        self.asked((6, 9), 4, ((6, 9), 4))
        self.asked((6, 10), 15, ((6, 10), 15))
        self.asked((4, 6), 1, ((4, 6), 1))

    def test_of_great_numbers(self):
        self.asked((GREAT * 4, -GREAT * 6), GREAT * 10, ((2, -3), 5))
        self.asked((GREAT,), GREAT + 1, ((GREAT,), GREAT + 1))

    def test_of_made_up_numbers(self):
        chance = maker(7)
        for _ in range(300):
            tops = numbers(chance, chance.randint(0, 4), 12)
            bottom = chance.randint(1, 24)
            told = lowest(tops, bottom)
            self.assertTrue(is_plain(told))
            self.assertEqual([Fraction(top, told[1]) for top in told[0]], [Fraction(top, bottom) for top in tops])
            self.assertEqual(math.gcd(told[1], *told[0]), 1)
            self.assertGreaterEqual(told[1], 1)

    def test_bottoms_below_1_are_refused(self):
        for bottom in (0, -1, -6, -GREAT):
            for tops in ((), (0, 0), (2, -4)):
                with self.subTest(f"{tops} {bottom}"):
                    with self.assertRaises(NoNumber):
                        lowest(tops, bottom)


if __name__ == "__main__":
    unittest.main()
