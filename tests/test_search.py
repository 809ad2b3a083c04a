import itertools
import unittest
from unittest import mock

from aids import dot, is_plain, least_row, made_givens, maker, meets_all, numbers, same
from cutyard.first import beginning
from cutyard.looker import bars
from cutyard.plans import givens
from cutyard.search import found, search, search_by_forms, tied_basis
from cutyard.shapes import fitted_shape
from cutyard.sides import Choice, Side, near_choice
from papers import slow_bars

GREAT = 10 ** 199


def leasts(n, bound=0):
    return tuple(least_row(n, k, bound) for k in range(n))


def mosts(n, bound):
    return tuple((tuple(-a for a in row[0]), -bound) for row in leasts(n))


def even(entries, bound):
    """The two rows that ask the sum to be just the bound."""
    return ((tuple(entries), bound), (tuple(-a for a in entries), -bound))


def between(entries, low, high):
    return ((tuple(entries), low), (tuple(-a for a in entries), -high))


class FoundCase(unittest.TestCase):
    def right(self, rows, word=None):
        """What is told is true; the word is told."""
        told = found(rows)
        self.assertTrue(is_plain(told))
        self.assertEqual(len(told), 2)
        if told[0] == "found":
            self.assertEqual(len(told[1]), len(rows[0][0]) if rows else 0)
            self.assertTrue(meets_all(rows, told[1]), rows)
        else:
            self.assertEqual(told[0], "none")
            self.assertIs(bars(rows, told[1]), True, rows)
        if word is not None:
            self.assertEqual(told[0], word, rows)
        return told[0]


class ByHandTest(FoundCase):
    def test_no_unknowns(self):
        self.assertTrue(same(found(()), ("found", ())))
        self.right((((), 0), ((), -3)), "found")
        self.right((((), 0), ((), 3), ((), 1)), "none")

    def test_leasts_alone(self):
        for n in (1, 2, 8):
            for bound in (0, -7, 5, GREAT, -GREAT):
                self.right(leasts(n, bound), "found")

    def test_one_unknown(self):
        self.right((((1,), 4), ((-1,), -4)), "found")
        self.right((((1,), 4), ((-1,), -3)), "none")
        self.right((((1,), 0), ((3,), 4), ((-3,), -5)), "none")
        self.right((((1,), 0), ((3,), 4), ((-3,), -6)), "found")
        self.right((((1,), -GREAT), ((3,), 1 - 3 * GREAT), ((-3,), 3 * GREAT - 2)), "none")

    def test_rows_of_noughts(self):
        self.right(leasts(2) + (((0, 0), 0),), "found")
        self.right(leasts(2) + (((0, 0), 1),), "none")
        self.right(leasts(2) + mosts(2, 3) + (((0, 0), 1), ((0, 0), -1)), "none")

    def test_two_unknowns_that_have_no_most(self):
        # 2 x - 2 y at least 1 and at most 1.
        rows = leasts(2) + even((2, -2), 1)
        self.right(rows, "none")
        self.right(leasts(2) + even((2, -2), 2), "found")
        self.right(leasts(2, -GREAT) + even((2, -2), GREAT + 1), "none")

    def test_only_choices_by_forms_come_to_an_end(self):
        self.right(leasts(3) + even((6, -10, -14), 1), "none")
        self.right(leasts(3) + even((6, -10, -15), 1), "found")
        self.right(leasts(2) + between((3, -3), 1, 2), "none")
        self.right(leasts(2) + between((5, -5), 11, 14), "none")
        self.right(leasts(2) + between((5, -5), 11, 15), "found")
        # x - y + z and x + y - z: each whole, but together even.
        self.right(leasts(4) + even((1, -1, 0, 0), 1) + even((1, 1, -2, 0), 0), "none")
        self.right(leasts(4) + even((1, -1, 0, 0), 2) + even((1, 1, -2, 0), 0), "found")
        # 3 x - 3 y + 1 is between two that leave no room, through a third unknown.
        self.right(leasts(3) + (((3, -3, -1), 1), ((-3, 3, 2), -2), ((0, 0, -1), 0)), "none")

    def test_the_same_within_boxes(self):
        # By single unknowns there would be about as many choices as the box is wide.
        for most in (3, 10 ** 6, GREAT):
            self.right(leasts(2) + mosts(2, most) + even((2, -2), 1), "none")
            self.right(leasts(2) + mosts(2, most) + between((3, -3), 1, 2), "none")
            self.right(leasts(3) + mosts(3, most) + even((6, -10, -14), 1), "none")
            self.right(leasts(3) + mosts(3, most) + even((2, 4, 6), most | 1), "none")

    def test_equations(self):
        self.right(leasts(2) + even((3, 5), 7), "none")
        self.right(leasts(2) + even((3, 5), 8), "found")
        self.right(leasts(3) + even((1, 1, 1), 10) + even((1, 2, 5), 21), "found")
        self.right(leasts(3) + even((1, 1, 1), 10) + even((1, 2, 5), 51), "none")
        self.right(leasts(2) + even((1, 1), 5) + even((1, -1), 2), "none")
        self.right(leasts(2) + even((1, 1), 5) + even((1, -1), 3), "found")

    def test_sums_of_coins(self):
        # Hard for choices by single unknowns: the greatest sums that these can't make.
        coins = (((12223, 12224, 36674, 61119, 85569), 89643481),
                 ((13429, 26850, 26855, 40280, 40281, 53711, 53714, 67141), 45094583),
                 ((25067, 49300, 49717, 62124, 87608, 88025, 113673, 119169), 33367335))
        for entries, bound in coins:
            self.right(leasts(len(entries)) + even(entries, bound), "none")
            self.right(leasts(len(entries)) + even(entries, bound + 1), "found")

    def test_spots_far_from_0(self):
        self.right(leasts(2, GREAT) + even((3, -5), 1), "found")
        self.right(leasts(2, -GREAT) + even((3, 5), 1), "found")
        # The first spots lie at (GREAT - 1, GREAT) and its multiples.
        self.right(leasts(2, 1) + even((GREAT, 1 - GREAT), 0), "found")
        self.right(leasts(2, 1) + even((GREAT, 1 - GREAT), 0) + (((-1, 0), -GREAT),), "found")
        self.right(leasts(2, 1) + even((GREAT, 1 - GREAT), 0) + (((-1, 0), 2 - GREAT),), "none")
        # From 2 y to 3 y, and y far out.
        self.right(leasts(2, 7) + (((1, -2), 0), ((-1, 3), 0), ((0, 1), GREAT)), "found")
        self.right(leasts(2, 7) + (((1, -2), 0), ((-1, 3), 0), ((0, 1), GREAT), ((-1, 0), 1 - 2 * GREAT)), "none")

    def test_rows_that_grow_along_the_ray(self):
        # The tied rows alone are met by a spot near 0; the others ask for one far out.
        rows = leasts(3) + even((1, -1, 0), 3) + (((0, 0, 1), GREAT), ((1, 1, -1), GREAT), ((1, 0, 0), 5))
        self.right(rows, "found")

    def test_choices_within_choices(self):
        # z chooses which of two equations must hold; neither can.
        far = 10 ** 7
        box = leasts(3) + mosts(3, 10 ** 6) + (((0, 0, -1), -1),)
        rows = box + (((2, -2, far), 1), ((-2, 2, far), -1), ((3, 6, -far), 100001 - far), ((-3, -6, -far), -100001 - far))
        self.right(rows, "none")
        rows = box + (((2, -2, far), 1), ((-2, 2, far), -1), ((3, 6, -far), 100002 - far), ((-3, -6, -far), -100002 - far))
        self.right(rows, "found")

    def test_asked_again_it_is_the_same(self):
        rows = leasts(3) + mosts(3, 9) + even((6, 10, 15), 71)
        told = found(rows)
        found(leasts(2) + even((2, -2), 1))
        self.assertTrue(same(found(rows), told))


def made_case(chance):
    """Givens of up to four unknowns, with equations, mosts and rows that leave little room."""
    n = chance.randint(0, 4)
    size = chance.choice((2, 3, 7))
    rows = made_givens(chance, n, chance.randint(0, 3), size)
    for row in rows[:n]:
        if chance.random() < 0.5:
            rows += ((tuple(-a for a in row[0]), -row[1] - chance.randint(0, 4)),)
    spot = tuple(row[1] + chance.randint(0, 2) for row in rows[:n])
    for _ in range(chance.randint(0, 2)):
        factor = chance.choice((1, 2, 3, 5))
        entries = tuple(factor * a for a in numbers(chance, n, size))
        low = dot(entries, spot) + chance.randint(0, 2)
        rows += between(entries, low, low + chance.choice((0, 0, 1, 2)))
    return rows


class MadeUpTest(FoundCase):
    def setUp(self):
        chance = maker(91)
        self.cases = [made_case(chance) for _ in range(900)]

    def test_each_is_true(self):
        words = {}
        for rows in self.cases:
            word = self.right(rows)
            words[word] = words.get(word, 0) + 1
        self.assertGreater(min(words.values()), 200, words)
        self.assertEqual(len(words), 2)

    def test_papers_with_choices(self):
        papers = [told[1] for told in map(found, self.cases) if told[0] == "none"]
        self.assertGreater(sum(any(line[0] == "choice" for line in paper) for paper in papers), 60)

    def test_against_all_spots(self):
        chance = maker(92)
        words = {"found": 0, "none": 0}
        for _ in range(400):
            n = chance.randint(1, 3)
            most = chance.randint(0, 4)
            rows = leasts(n) + mosts(n, most)
            spot = tuple(chance.randint(0, most) for _ in range(n))
            for _ in range(chance.randint(1, 3)):
                entries = numbers(chance, n, 7)
                low = dot(entries, spot) + chance.randint(-1, 1)
                rows += between(entries, low, low + chance.choice((0, 1, 3)))
            there = any(meets_all(rows, spot) for spot in itertools.product(range(most + 1), repeat=n))
            words[self.right(rows, "found" if there else "none")] += 1
        self.assertGreater(min(words.values()), 60)

    def test_another_order_and_other_sizes(self):
        chance = maker(93)
        for rows in self.cases[:400]:
            n = len(rows[0][0]) if rows else 0
            word = found(rows)[0]
            behind = list(rows[n:])
            chance.shuffle(behind)
            self.right(rows[:n] + tuple(behind), word)
            behind = [(tuple(k * a for a in entries), k * bound)
                      for (entries, bound), k in zip(behind, [chance.choice((1, 2, 5, GREAT)) for _ in behind])]
            self.right(rows[:n] + tuple(behind), word)
            # The unknowns in another order.
            order = list(range(n))
            chance.shuffle(order)
            turned = [(tuple(entries[k] for k in order), bound) for entries, bound in rows]
            self.right(tuple(turned[k] for k in order) + tuple(turned[n:]), word)

    def test_papers_by_another_looker(self):
        for rows in self.cases[:200]:
            told = found(rows)
            if told[0] == "none":
                self.assertTrue(slow_bars(rows, told[1]))


class GreatTest(FoundCase):
    def test_great_equations(self):
        chance = maker(94)
        words = set()
        for n, many in ((2, 1), (4, 1), (4, 2), (8, 1), (8, 3)):
            for off in (0, 1):
                rows = leasts(n)
                spot = tuple(chance.randint(0, 99) for _ in range(n))
                for _ in range(many):
                    entries = tuple(chance.randint(1, GREAT) for _ in range(n))
                    rows += even(entries, dot(entries, spot) + off)
                words.add(self.right(rows, "found" if off == 0 else None))
        self.assertEqual(words, {"found", "none"})

    def test_eighty_rows_of_eight_unknowns(self):
        chance = maker(95)
        words = []
        for size, room in ((50, 1), (50, 3), (50, 20), (GREAT, 1), (GREAT, 20)):
            middle = numbers(chance, 8, size)
            rows = leasts(8, -2 * size)
            while len(rows) < 80:
                entries = numbers(chance, 8, size)
                # About as far from the middle, which lies between the spots, in each direction.
                far = sum(abs(a) for a in entries) * room // 6
                rows += ((entries, dot(entries, middle) + sum(entries) // 2 - far),)
            words.append(self.right(rows))
        self.assertEqual(set(words), {"found", "none"})

    def test_great_boxes(self):
        chance = maker(96)
        for n in (3, 8):
            spot = tuple(chance.randint(0, GREAT) for _ in range(n))
            rows = leasts(n) + mosts(n, GREAT)
            for _ in range(3 if n == 8 else 2):
                entries = numbers(chance, n, 99)
                rows += even(entries, dot(entries, spot))
            self.right(rows, "found")
            entries = tuple(2 * a for a in numbers(chance, n, 50))
            self.right(leasts(n) + mosts(n, GREAT) + even(entries, dot(entries, spot) + 1), "none")


class PartsTest(FoundCase):
    """What the search is made of."""

    def side(self, rows, numbers_looked_at=None):
        looked = tuple(range(len(rows))) if numbers_looked_at is None else numbers_looked_at
        return Side(rows, looked, beginning(rows, len(rows[0][0])))

    def test_forms_span_the_tied_rows(self):
        rows = leasts(3) + even((6, -10, -14), 1)
        basis = tied_basis(rows, (3, 4))
        self.assertEqual(len(basis.turns), 1)
        self.assertIn(basis.turns[0], ((3, -5, -7), (-3, 5, 7)))
        self.assertEqual(dot(basis.turns[0], basis.columns[0]), 1)
        self.assertEqual(tied_basis(rows, ()).turns, [])
        self.assertEqual(len(tied_basis(rows, (0, 1, 2)).turns), 3)

    def test_search_by_forms_ends_without_shapes(self):
        rows = leasts(2) + mosts(2, 30) + even((2, -2), 1)
        side = self.side(rows)
        basis = tied_basis(rows, range(len(rows)))
        self.assertEqual(search_by_forms(side, basis, 5), ("open",))
        told = search_by_forms(side, basis, -1)
        self.assertEqual(told[0], "none")
        self.assertIs(bars(rows, tuple(told[1])), True)
        # The same by the shape of the side is short.
        told = search(side, basis)
        self.assertEqual(told[0], "none")
        self.assertIs(bars(rows, told[1]), True)
        self.assertLess(len(told[1]), 10)

    def test_shapes_find_forms_that_reach_little(self):
        rows = leasts(2) + mosts(2, 10 ** 9) + between((7, -7), 2, 5)
        shape = fitted_shape(self.side(rows), tied_basis(rows, range(len(rows))))
        self.assertIn(shape.basis.turns[0], ((1, -1), (-1, 1)))
        self.assertFalse(shape.is_settled(0))

    def test_halving_choices_leave_out_what_is_settled(self):
        # x - y is just 1, x from 1 to 40, z from 0 to 9.
        rows = leasts(3) + mosts(3, 40) + even((1, -1, 0), 1) + (((0, 0, -1), -9),)
        shape = fitted_shape(self.side(rows), tied_basis(rows, range(len(rows))))
        self.assertEqual([shape.is_settled(k) for k in range(3)], [True, False, False])
        choice = shape.halving_choice()
        self.assertIn(choice.line, (("choice", (0, 0, 1), 4), ("choice", (0, 0, -1), -5)))
        self.assertTrue(meets_all(rows, shape.middle_spot()))

    def test_halving_choices_halve(self):
        for low, high, k in (((1, 0), (3, 10), 1), ((3, 1), (4, 15), 2), ((5, -9), (2, -3), -2), ((7, 3), (7, 4), 0)):
            rows = (((1,), -20), ((low[0],), low[1]), ((-high[0],), -high[1]))
            choice = fitted_shape(self.side(rows), tied_basis(rows, range(3))).halving_choice()
            self.assertEqual(choice.line, ("choice", (1,), k))

    def test_behind_many_shapes_the_forms_stay(self):
        rows = leasts(2) + mosts(2, 30) + even((2, -2), 1)
        basis = tied_basis(rows, range(len(rows)))
        with mock.patch("cutyard.search.MOST_SHAPES", 0), mock.patch("cutyard.search.fitted_shape", None):
            told = search(self.side(rows), basis)
            self.assertEqual(told[0], "none")
            self.assertIs(bars(rows, told[1]), True)
        with mock.patch("cutyard.search.FEW_CHOICES", 0), mock.patch("cutyard.search.MOST_SHAPES", 2):
            asked = []
            fitted = mock.Mock(side_effect=lambda *parts: asked.append(parts) or fitted_shape(*parts))
            with mock.patch("cutyard.search.fitted_shape", fitted):
                rows = leasts(3) + mosts(3, 9) + between((4, 6, 9), 41, 41) + between((5, -7, 3), 2, 2)
                self.right(rows)
                self.assertGreater(len(asked), 0)

    def test_a_shape_for_each_choice(self):
        chance = maker(97)
        with mock.patch("cutyard.search.FEW_CHOICES", 0):
            words = {"found": 0, "none": 0}
            for _ in range(150):
                words[self.right(made_case(chance))] += 1
            self.assertGreater(min(words.values()), 20)

    def test_choices_make_the_rows_of_the_paper(self):
        rows = leasts(2) + mosts(2, 4)
        side = self.side(rows)
        choice = Choice(side, side.stand, (1, -1), 2)
        self.assertEqual(choice.line, ("choice", (1, -1), 2))
        self.assertEqual(choice.one.rows, rows + (((-1, 1), -2),))
        self.assertEqual(choice.other.rows, rows + (((1, -1), 3),))
        # Of rows with the same entries only the strongest is looked at.
        again = Choice(choice.one, side.stand, (1, -1), 1).one
        self.assertEqual(again.numbers, (0, 1, 2, 3, 5))
        again = Choice(choice.one, side.stand, (1, -1), 3).one
        self.assertEqual(again.numbers, (0, 1, 2, 3, 4, 5))

    def test_the_nearer_side_comes_first(self):
        for bound, line in ((4, ("choice", (1,), 1)), (5, ("choice", (-1,), -2)), (-4, ("choice", (-1,), 1)), (-5, ("choice", (1,), -2))):
            rows = (((1,), -9), ((3,), bound))
            stand = beginning(((((1,), -9)),), 1)
            stand.tops, stand.bottom = (bound,), 3
            self.assertEqual(near_choice(self.side(rows), stand, (1,)).line, line)


if __name__ == "__main__":
    unittest.main()
