import itertools
import unittest

import oracle
from aids import made_givens, maker, numbers, same
from cutyard.first import first
from cutyard.looker import bars, holds, line_row, shares_hold
from papers import made_paper, slow_bars, slow_cut

GREAT = 10 ** 200


def changed_numbers(value):
    """The value with one whole number in it changed, in all places, by little."""
    if isinstance(value, int):
        return [value - 1, value + 1]
    if not isinstance(value, tuple):
        return []
    return [value[:k] + (part,) + value[k + 1:] for k in range(len(value)) for part in changed_numbers(value[k])]


def changed_papers(paper):
    """The paper with a line left out, twice, exchanged, or with a number changed."""
    for k in range(len(paper)):
        yield paper[:k] + paper[k + 1:]
        yield paper[:k + 1] + paper[k:]
        for i in range(k):
            yield paper[:i] + (paper[k],) + paper[i + 1:k] + (paper[i],) + paper[k + 1:]
    yield from changed_numbers(paper)


class LineRowTest(unittest.TestCase):
    rows = (((1, 0), 3), ((0, 1), -2), ((2, 4), 5), ((-1, -1), -7))

    def asked(self, shares, divisor, told):
        self.assertTrue(same(line_row(self.rows, shares, divisor), told), (shares, divisor))

    def test_sums(self):
        self.asked(((0, 1),), 1, ((1, 0), 3))
        self.asked(((0, 2), (3, 1)), 1, ((1, -1), -1))
        self.asked(((3, 1), (0, 2)), 1, ((1, -1), -1))
        self.asked(((1, GREAT),), 1, ((0, GREAT), -2 * GREAT))

    def test_the_bound_is_rounded_up(self):
        self.asked(((2, 1),), 2, ((1, 2), 3))
        self.asked(((0, 2), (3, 2)), 2, ((0, -1), -4))
        self.asked(((3, 3),), 3, ((-1, -1), -7))
        self.asked(((0, 2), (1, 4), (2, 1)), 4, ((1, 2), 1))
        self.asked(((1, 3), (1, 1)), 4, ((0, 1), -2))
        rows = (((-2, 0), -5),)
        self.assertTrue(same(line_row(rows, ((0, 1),), 2), ((-1, 0), -2)))
        self.assertTrue(same(line_row(rows, ((0, 2),), 4), ((-1, 0), -2)))

    def test_no_shares(self):
        self.asked((), 1, None)
        self.assertIsNone(line_row((), (), 1))

    def test_numbers_that_are_none_of_a_row(self):
        for number in (-1, -4, -5, 4, 5, GREAT):
            for weight in (0, 1):
                self.asked(((number, weight),), 1, None)
                self.asked(((0, 1), (number, weight)), 1, None)
                self.asked(((number, weight), (0, 1)), 1, None)
        self.assertIsNone(line_row((), ((0, 1),), 1))

    def test_weights_below_0(self):
        self.asked(((0, -1),), 1, None)
        self.asked(((0, 2), (0, -1)), 1, None)
        self.asked(((0, -1), (0, 2)), 1, None)

    def test_divisors_below_1(self):
        for divisor in (0, -1, -2):
            self.asked(((0, 2),), divisor, None)

    def test_entries_that_leave_a_rest(self):
        self.asked(((0, 1),), 2, None)
        self.asked(((2, 1),), 4, None)
        self.asked(((3, 1),), 2, None)
        self.asked(((0, 2), (1, 1)), 2, None)

    def test_weights_of_0(self):
        self.asked(((0, 0),), 1, ((0, 0), 0))
        self.asked(((0, 0), (1, 0)), 7, ((0, 0), 0))
        self.asked(((0, 0), (1, 1)), 1, ((0, 1), -2))

    def test_one_number_in_several_shares(self):
        self.asked(((0, 1), (0, 1)), 1, ((2, 0), 6))
        self.asked(((0, 1), (1, 2), (0, 3)), 2, ((2, 1), 4))

    def test_no_unknowns(self):
        rows = (((), 3), ((), -4))
        self.assertTrue(same(line_row(rows, ((0, 1),), 2), ((), 2)))
        self.assertTrue(same(line_row(rows, ((1, 1), (0, 1)), 2), ((), 0)))
        self.assertTrue(same(line_row(rows, ((1, 1),), 3), ((), -1)))

    def test_made_up_cuts(self):
        chance = maker(41)
        taken = 0
        for _ in range(1500):
            n = chance.randint(0, 3)
            rows = tuple((numbers(chance, n, 3), chance.randint(-5, 5)) for _ in range(chance.randint(1, 4)))
            shares = tuple((chance.randint(-1, len(rows)) if chance.random() < 0.1 else chance.randrange(len(rows)),
                            chance.randint(-1, 4) if chance.random() < 0.1 else chance.randint(0, 4))
                           for _ in range(chance.randint(0, 4)))
            divisor = chance.choice((-1, 0, 1, 1, 2, 2, 3))
            told = line_row(rows, shares, divisor)
            self.assertTrue(same(told, slow_cut(rows, shares, divisor)), (rows, shares, divisor))
            taken += told is not None
            if told is not None:
                for spot in itertools.product(range(-2, 3), repeat=n):
                    if all(oracle.times(entries, spot) >= bound for entries, bound in rows):
                        self.assertGreaterEqual(oracle.times(told[0], spot), told[1])
        self.assertGreater(taken, 200)


# 2 x - 2 y is 1: no spot, x from 0 to 2.
HALF = (((1, 0), 0), ((0, 1), -5), ((-1, 0), -2), ((2, -2), 1), ((-2, 2), -1))

# x - y at least 1 and at most 0, by cuts alone.
BY_CUTS = (
    ("cut", ((3, 1),), 2),
    ("cut", ((4, 1),), 2),
    ("cut", ((5, 1), (6, 1)), 1),
    ("shut", 7),
)


# x at most 0; then x at most 1 (and at least 1); then x at least 2: each value of x by itself.
SIDE_BY_SIDE = (
    ("choice", (1, 0), 0),
    ("cut", ((4, 1), (0, 2)), 2),
    ("cut", ((3, 1), (5, 2)), 2),
    ("cut", ((6, 1), (7, 1)), 1),
    ("shut", 8),
    ("choice", (1, 0), 1),
    ("cut", ((4, 1), (5, 2)), 2),
    ("cut", ((3, 1), (6, 2)), 2),
    ("cut", ((7, 1), (8, 1)), 1),
    ("shut", 9),
    ("cut", ((4, 1), (6, 2)), 2),
    ("cut", ((3, 1), (2, 2)), 2),
    ("cut", ((7, 1), (8, 1)), 1),
    ("shut", 9),
)

# x at most 1; within it x at most 0, then x at least 1; behind these x at least 2.
WITHIN = (
    ("choice", (1, 0), 1),
    ("choice", (1, 0), 0),
    ("cut", ((4, 1), (0, 2)), 2),
    ("cut", ((3, 1), (6, 2)), 2),
    ("cut", ((7, 1), (8, 1)), 1),
    ("shut", 9),
    ("cut", ((4, 1), (6, 2)), 2),
    ("cut", ((3, 1), (5, 2)), 2),
    ("cut", ((7, 1), (8, 1)), 1),
    ("shut", 9),
    ("cut", ((4, 1), (5, 2)), 2),
    ("cut", ((3, 1), (2, 2)), 2),
    ("cut", ((6, 1), (7, 1)), 1),
    ("shut", 8),
)


def boxed_cases(seed, count):
    """Made-up rows of two or three unknowns within a small box, with their papers (or None)."""
    chance = maker(seed)
    for _ in range(count):
        n = chance.randint(2, 3)
        rows = tuple((tuple(int(k == i) for k in range(n)), 0) for i in range(n))
        rows += tuple((tuple(-int(k == i) for k in range(n)), -3) for i in range(n))
        for _ in range(chance.randint(1, 2)):
            entries = tuple(chance.choice((2, 3)) * e for e in numbers(chance, n, 3))
            bound = chance.randint(-7, 7)
            rows += ((entries, bound), (tuple(-e for e in entries), -bound - chance.randint(0, 1)))
        yield rows, made_paper(rows, n)


def spots(n):
    return itertools.product(range(4), repeat=n)


class BarsTest(unittest.TestCase):
    def test_right_papers(self):
        for paper in (BY_CUTS, SIDE_BY_SIDE, WITHIN):
            self.assertIs(bars(HALF, paper), True)

    def test_no_lines(self):
        self.assertIs(bars(HALF, ()), False)
        self.assertIs(bars((), ()), False)
        self.assertIs(bars((((), 1),), ()), False)

    def test_a_line_left_out(self):
        for paper in (BY_CUTS, SIDE_BY_SIDE, WITHIN):
            for k in range(len(paper)):
                self.assertIs(bars(HALF, paper[:k] + paper[k + 1:]), False, (paper, k))

    def test_lines_left_out_at_the_end(self):
        for paper in (BY_CUTS, SIDE_BY_SIDE, WITHIN):
            for k in range(len(paper)):
                self.assertIs(bars(HALF, paper[:k]), False)

    def test_lines_behind_the_last(self):
        for paper in (BY_CUTS, SIDE_BY_SIDE, WITHIN):
            for line in paper[-1:] + (("cut", ((0, 1),), 1), ("choice", (1, 0), 0), ("shut", 0)):
                self.assertIs(bars(HALF, paper + (line,)), False)
            self.assertIs(bars(HALF, paper + paper), False)

    def test_a_choice_or_a_shut_twice(self):
        for paper in (SIDE_BY_SIDE, WITHIN):
            for k, line in enumerate(paper):
                if line[0] in ("choice", "shut"):
                    self.assertIs(bars(HALF, paper[:k + 1] + paper[k:]), False, (paper, k))

    def test_each_change(self):
        for paper in (BY_CUTS, SIDE_BY_SIDE, WITHIN):
            told = []
            for other in changed_papers(paper):
                told.append(bars(HALF, other))
                self.assertIs(told[-1], slow_bars(HALF, other), other)
            self.assertLess(told.count(True), len(told) // 4)

    def test_a_paper_for_other_rows(self):
        for k in range(len(HALF)):
            for bound in (-1, 1):
                rows = HALF[:k] + ((HALF[k][0], HALF[k][1] + bound),) + HALF[k + 1:]
                for paper in (BY_CUTS, SIDE_BY_SIDE, WITHIN):
                    self.assertIs(bars(rows, paper), slow_bars(rows, paper))
            self.assertIs(bars(HALF[:k] + HALF[k + 1:], BY_CUTS), False)

    def test_a_wrong_line_that_nothing_hangs_on(self):
        wrong = [("cut", (), 1), ("cut", ((-1, 1),), 1), ("cut", ((99, 1),), 1), ("cut", ((0, -1),), 1)]
        wrong += [("cut", ((0, 1),), divisor) for divisor in (-1, 0, 2)]
        wrong += [("choice", entries, 0) for entries in ((), (1,), (1, 0, 0))]
        wrong += [("shut", number) for number in (-1, 0, 99)]
        for paper in (BY_CUTS, SIDE_BY_SIDE, WITHIN):
            for k in range(len(paper) + 1):
                for line in wrong:
                    self.assertIs(bars(HALF, paper[:k] + (line,) + paper[k:]), False, (k, line))

    def test_shut(self):
        rows = (((0, 0), 1), ((0, 0), 0), ((0, 0), -1), ((1, 0), 1), ((0, -1), 1), ((0, 0), GREAT))
        told = [bars(rows, (("shut", k),)) for k in range(-7, 8)]
        self.assertEqual(told, [k in (0, 5) for k in range(-7, 8)])
        self.assertTrue(all(isinstance(truth, bool) for truth in told))

    def test_no_unknowns_and_no_rows(self):
        self.assertIs(bars((((), 1),), (("shut", 0),)), True)
        self.assertIs(bars((((), 0),), (("shut", 0),)), False)
        self.assertIs(bars((), (("shut", 0),)), False)
        self.assertIs(bars((), (("cut", (), 1), ("shut", 0))), False)
        self.assertIs(bars((), (("choice", (1,), 0), ("shut", 0), ("shut", 0))), False)
        # A choice without entries makes the rows ((), -k) and ((), k + 1); just one can be shut.
        self.assertIs(bars((), (("choice", (), 0), ("shut", 0), ("shut", 0))), False)
        self.assertIs(bars((), (("choice", (), -1), ("shut", 0), ("shut", 0))), False)
        self.assertIs(bars((((), 2),), (("choice", (), 5), ("shut", 0), ("shut", 1))), True)
        self.assertIs(bars((((), 2),), (("choice", (), -5), ("shut", 1), ("shut", 0))), True)

    def test_choices_of_a_wrong_length(self):
        rows = (((0, 0), 1),)
        self.assertIs(bars(rows, (("choice", (1, 0), 5), ("shut", 0), ("shut", 0))), True)
        for entries in ((), (1,), (1, 0, 0)):
            self.assertIs(bars(rows, (("choice", entries, 5), ("shut", 0), ("shut", 0))), False)

    def test_the_rows_of_a_choice(self):
        # On the one side entries 1, at most 4; on the other at least 5.
        rows = (((1,), 5), ((-1,), -4))
        paper = (("choice", (1,), 4), ("cut", ((0, 1), (2, 1)), 1), ("shut", 3),
                 ("cut", ((1, 1), (2, 1)), 1), ("shut", 3))
        self.assertIs(bars(rows, paper), True)
        for k in (3, 5):
            other = (("choice", (1,), k),) + paper[1:]
            self.assertIs(bars(rows, other), False, k)
        self.assertIs(bars(rows, (("choice", (-1,), -4),) + paper[1:]), False)

    def test_a_side_kept_has_none_of_the_rows_read_since(self):
        rows = (((1,), 0),)
        paper = (("choice", (1,), -1), ("cut", ((0, 1), (1, 1)), 1), ("shut", 2))
        self.assertIs(bars(rows, paper + (("shut", 2),)), False)
        self.assertIs(bars(rows, paper + (("shut", 1),)), False)

    def test_the_side_kept_last_is_read_on_first(self):
        # The first kept side has x at least 3 against x at most 2, the last x at least 2 against x at most 1.
        rows = (((1,), 2), ((-1,), -2), ((0,), 1))
        paper = (("choice", (1,), 2), ("choice", (1,), 1), ("cut", ((0, 1), (4, 1)), 1), ("shut", 5),
                 ("shut", 2), ("cut", ((1, 1), (3, 1)), 1), ("shut", 4))
        self.assertIs(bars(rows, paper), True)
        self.assertIs(bars(rows, paper[:4] + paper[5:] + paper[4:5]), False)

    def test_made_up_papers(self):
        right = 0
        for rows, paper in boxed_cases(42, 250):
            if paper is not None:
                right += 1
                self.assertIs(bars(rows, paper), True)
                n = len(rows[0][0])
                for spot in spots(n):
                    self.assertFalse(all(oracle.times(e, spot) >= b for e, b in rows))
        self.assertGreater(right, 60)

    def test_made_up_papers_changed(self):
        chance = maker(43)
        for rows, paper in boxed_cases(44, 120):
            if paper is None:
                continue
            changes = list(changed_papers(paper))
            for other in chance.sample(changes, min(60, len(changes))):
                self.assertIs(bars(rows, other), slow_bars(rows, other), (rows, other))

    def test_thousands_of_sides_kept_at_once(self):
        # x from 0, 2 x - 2 y is 1; x at most N, N - 1, .. 0; on each side kept x has one value.
        many = 3000
        rows = (((1, 0), 0), ((-1, 0), -many), ((2, -2), 1), ((-2, 2), -1))
        paper = [("choice", (1, 0), k) for k in range(many - 1, -1, -1)]
        paper += self.shut_side(0, 3 + many, 4 + many)
        for k in range(1, many + 1):
            # The side kept at x at most k - 1 stands behind the row of x at most k.
            above = 1 if k == many else 4 + many - k - 1
            paper += self.shut_side(4 + many - k, above, 5 + many - k)
        paper = tuple(paper)
        self.assertIs(bars(rows, paper), True)
        self.assertIs(bars(rows, paper[:-1]), False)
        self.assertIs(bars(rows, paper[:5000] + paper[5001:]), False)
        self.assertIs(bars(rows, paper[:100] + (("choice", (1, 0), 5000),) + paper[101:]), False)

    def test_thousands_of_lines_side_by_side(self):
        many = 3000
        rows = (((1, 0), 0), ((-1, 0), -many), ((2, -2), 1), ((-2, 2), -1))
        paper = []
        for k in range(many):
            # k rows x at least 1 .. k stand behind the four.
            below = 0 if k == 0 else 3 + k
            paper += [("choice", (1, 0), k)] + self.shut_side(below, 4 + k, 5 + k)
        paper += self.shut_side(3 + many, 1, 4 + many)
        self.assertIs(bars(rows, tuple(paper)), True)
        self.assertIs(bars(rows, tuple(paper[:-4])), False)

    def shut_side(self, below, above, count):
        """The lines for a side with so many rows, on which x has one value by the rows of these numbers."""
        return [
            ("cut", ((3, 1), (below, 2)), 2),
            ("cut", ((2, 1), (above, 2)), 2),
            ("cut", ((count, 1), (count + 1, 1)), 1),
            ("shut", count + 2),
        ]


class SharesHoldTest(unittest.TestCase):
    def cases(self):
        chance = maker(51)
        for _ in range(250):
            n = chance.randint(0, 3)
            rows = made_givens(chance, n, chance.randint(0, 5), 3)
            yield rows, numbers(chance, n, 3)

    def test_what_first_tells_holds(self):
        words = set()
        for rows, goal in self.cases():
            told = first(rows, goal)
            words.add(told[0])
            self.assertIs(shares_hold(rows, goal, told), True, (rows, goal, told))
        self.assertEqual(words, {"none", "endless", "best"})

    def test_a_single_number_changed(self):
        wrong = {"none": 0, "endless": 0, "best": 0}
        for rows, goal in self.cases():
            told = first(rows, goal)
            for other in changed_numbers(told):
                truth = shares_hold(rows, goal, other)
                self.assertIs(truth, oracle.ending_holds(rows, goal, other), (rows, goal, other))
                wrong[told[0]] += not truth
        self.assertTrue(all(count > 100 for count in wrong.values()), wrong)

    def test_for_other_rows_and_goals(self):
        for rows, goal in self.cases():
            told = first(rows, goal)
            for other in changed_numbers(goal):
                self.assertIs(shares_hold(rows, other, told), oracle.ending_holds(rows, other, told))
            for k in range(len(goal), len(rows)):
                other = rows[:k] + ((rows[k][0], rows[k][1] + 1),) + rows[k + 1:]
                self.assertIs(shares_hold(other, goal, told), oracle.ending_holds(other, goal, told))

    def test_none(self):
        rows = (((1,), 4), ((-1,), -3), ((0,), 2))
        for shares in (((0, 1), (1, 1)), ((1, 1), (0, 1)), ((0, 5), (1, 5)), ((0, 1), (1, 2), (0, 1)),
                       ((0, 1), (1, 1), (2, 0)), ((2, 1),), ((2, GREAT),)):
            self.assertIs(shares_hold(rows, (1,), ("none", shares)), True, shares)
        for shares in ((), ((0, 1),), ((1, 1),), ((0, 0), (1, 0)), ((0, 2), (1, 1)), ((0, -1), (1, -1)), ((2, -1),),
                       ((2, 0),), ((-1, 1),), ((3, 1),), ((2, 1), (3, 0)), ((2, 1), (-1, 0)), ((2, 2), (2, -1))):
            self.assertIs(shares_hold(rows, (1,), ("none", shares)), False, shares)
        # A sum of the bounds of 0 shows nothing.
        self.assertIs(shares_hold((((1,), 3), ((-1,), -3)), (1,), ("none", ((0, 1), (1, 1)))), False)

    def test_endless(self):
        rows = (((1, 0), 1), ((0, 1), 0), ((-1, 1), -2))
        goal = (1, 1)
        for point in (((1, 0), 1), ((3, 1), 2), ((6, 2), 4), ((5, 5), 1)):
            for ray in ((1, 1), (0, 1), (3, 7), (GREAT, GREAT)):
                self.assertIs(shares_hold(rows, goal, ("endless", point, ray)), True)
        for point in (((1, -1), 1), ((1, 0), 2), ((1, 0), 0), ((1, 0), -1), ((-1, 0), -1), ((1,), 1), ((1, 0, 0), 1),
                      ((), 1), ((4, 1), 1)):
            self.assertIs(shares_hold(rows, goal, ("endless", point, (1, 1))), False, point)
        for ray in ((0, 0), (1, 0), (-1, 2), (1, -1), (1,), (1, 1, 1), (1, 1, 0), ()):
            self.assertIs(shares_hold(rows, goal, ("endless", ((1, 0), 1), ray)), False, ray)
        self.assertIs(shares_hold(rows, (0, 0), ("endless", ((1, 0), 1), (1, 1))), False)
        self.assertIs(shares_hold((), (), ("endless", ((), 1), ())), False)

    def test_best(self):
        # x from 0, 2 x at most 7, 4 x at most 14, goal 3.
        rows = (((1,), 0), ((-2,), -7), ((-4,), -14))
        for told in ((((7,), 2), ((1, 3),), 2), (((14,), 4), ((1, 3),), 2), (((7,), 2), ((1, 6),), 4),
                     (((7,), 2), ((2, 3),), 4), (((7,), 2), ((2, 3), (1, 0), (1, 6)), 8), (((7,), 2), ((1, 1), (1, 2)), 2)):
            self.assertIs(shares_hold(rows, (3,), ("best",) + told), True, told)
        for told in ((((7,), 2), ((1, 3),), 1), (((7,), 2), ((1, 3),), 0), (((7,), 2), ((1, 3),), -2),
                     (((7,), 2), ((1, 2),), 2), (((7,), 2), (), 2), (((7,), 2), ((3, 3),), 2), (((7,), 2), ((-2, 3),), 2),
                     (((7,), 2), ((1, 3), (3, 0)), 2), (((7,), 2), ((1, 4), (1, -1)), 2),
                     (((6,), 2), ((1, 3),), 2), (((8,), 2), ((1, 3),), 2), (((-7,), -2), ((1, 3),), 2),
                     (((7,), 0), ((1, 3),), 2), (((0,), 0), ((1, 3),), 2), (((7, 0), 2), ((1, 3),), 2),
                     (((), 2), ((1, 3),), 2)):
            self.assertIs(shares_hold(rows, (3,), ("best",) + told), False, told)

    def test_best_without_shares(self):
        rows = (((1,), 0),)
        self.assertIs(shares_hold(rows, (0,), ("best", ((5,), 3), (), 1)), True)
        self.assertIs(shares_hold(rows, (0,), ("best", ((5,), 3), (), 9)), True)
        self.assertIs(shares_hold(rows, (0,), ("best", ((-5,), 3), (), 1)), False)
        self.assertIs(shares_hold(rows, (0,), ("best", ((5,), 3), (), 0)), False)
        self.assertIs(shares_hold((), (), ("best", ((), 1), (), 1)), True)
        self.assertIs(shares_hold((), (), ("best", ((), 0), (), 1)), False)
        self.assertIs(shares_hold((((), 1),), (), ("best", ((), 1), (), 1)), False)
        self.assertIs(shares_hold((), (), ("best", ((0,), 1), (), 1)), False)


class HoldsTest(unittest.TestCase):
    # x from 0, y from 0 to 4, 2 x + 2 y at most 7: best are the spots with x + y = 3.
    plan = (((0, None), (0, 4)), (((-2, -2), -7),), (1, 1))
    # The givens are 0, 1 (leasts), 2 (y's most), 3 (the row); 4 is the better row x + y at least 4.
    paper = (("cut", ((3, 1),), 2), ("cut", ((4, 1), (5, 1)), 1), ("shut", 6))
    # 2 x is 1 for x from 0.
    no_plan = (((0, None),), (((2,), 1), ((-2,), -1)), (1,))
    no_paper = (("cut", ((1, 1),), 2), ("cut", ((2, 1),), 2), ("cut", ((3, 1), (4, 1)), 1), ("shut", 5))
    # x and y from 0, y at most x and 1, goal x - y.
    endless_plan = (((0, None), (-1, None)), (((1, -1), -1),), (1, -1))

    def test_best(self):
        for spot in ((3, 0), (0, 3), (1, 2)):
            self.assertIs(holds(self.plan, ("best", spot, self.paper)), True)
        # A worse spot has a better row that the paper doesn't bar; these spots miss a given.
        for spot in ((2, 0), (0, 0), (4, 0), (-1, 4), (4, -1), (-2, 5), (3, 1)):
            self.assertIs(holds(self.plan, ("best", spot, self.paper)), False, spot)

    def test_best_with_spots_of_a_wrong_length(self):
        for spot in ((), (3,), (3, 0, 0)):
            self.assertIs(holds(self.plan, ("best", spot, self.paper)), False, spot)

    def test_best_with_papers_changed(self):
        for k in range(3):
            self.assertIs(holds(self.plan, ("best", (3, 0), self.paper[:k] + self.paper[k + 1:])), False)
        rows = (((1, 0), 0), ((0, 1), 0), ((0, -1), -4), ((-2, -2), -7), ((1, 1), 4))
        for paper in changed_papers(self.paper):
            self.assertIs(holds(self.plan, ("best", (3, 0), paper)), slow_bars(rows, paper), paper)

    def test_best_of_no_unknowns(self):
        self.assertIs(holds(((), (), ()), ("best", (), (("shut", 0),))), True)
        self.assertIs(holds(((), (((), 0),), ()), ("best", (), (("shut", 1),))), True)
        self.assertIs(holds(((), (((), 0),), ()), ("best", (), (("shut", 0),))), False)
        self.assertIs(holds(((), (((), 1),), ()), ("best", (), (("shut", 1),))), False)
        self.assertIs(holds(((), (), ()), ("best", (0,), (("shut", 0),))), False)
        self.assertIs(holds(((), (), ()), ("best", (), ())), False)

    def test_best_of_a_worth_below_0(self):
        plan = (((2, None),), (), (-3,))
        paper = (("cut", ((0, 3), (1, 1)), 1), ("shut", 2))
        self.assertIs(holds(plan, ("best", (2,), paper)), True)
        self.assertIs(holds(plan, ("best", (3,), paper)), False)
        self.assertIs(holds(plan, ("best", (1,), paper)), False)

    def test_none(self):
        self.assertIs(holds(self.no_plan, ("none", self.no_paper)), True)
        rows = (((1,), 0), ((2,), 1), ((-2,), -1))
        for paper in changed_papers(self.no_paper):
            self.assertIs(holds(self.no_plan, ("none", paper)), slow_bars(rows, paper), paper)
        self.assertIs(holds(self.no_plan, ("none", ())), False)
        for goal in ((0,), (-5,)):
            self.assertIs(holds(self.no_plan[:2] + (goal,), ("none", self.no_paper)), True)
        # No better row stands behind the givens here.
        self.assertIs(holds(self.plan, ("none", self.paper)), False)

    def test_none_where_least_is_above_most(self):
        plan = (((4, 3),), (), (1,))
        self.assertIs(holds(plan, ("none", (("cut", ((0, 1), (1, 1)), 1), ("shut", 2)))), True)
        self.assertIs(holds((((3, 3),), (), (1,)), ("none", (("cut", ((0, 1), (1, 1)), 1), ("shut", 2)))), False)

    def test_endless(self):
        for spot in ((0, -1), (0, 1), (5, 6), (GREAT, 0)):
            for ray in ((1, 0), (2, 1), (GREAT, 1)):
                self.assertIs(holds(self.endless_plan, ("endless", spot, ray)), True)
        for spot in ((-1, -1), (0, -2), (0, 2), (), (0,), (0, 0, 0)):
            self.assertIs(holds(self.endless_plan, ("endless", spot, (1, 0))), False, spot)
        for ray in ((0, 0), (1, 1), (-1, 0), (1, -1), (0, 1), (), (1,), (1, 0, 0)):
            self.assertIs(holds(self.endless_plan, ("endless", (0, 0), ray)), False, ray)

    def test_endless_is_false_where_a_most_falls(self):
        plan = (((0, 9),), (), (1,))
        self.assertIs(holds(plan, ("endless", (0,), (1,))), False)
        self.assertIs(holds((((0, None),), (), (1,)), ("endless", (0,), (1,))), True)
        self.assertIs(holds(((), (), ()), ("endless", (), ())), False)

    def test_asked_again_it_is_the_same(self):
        told = ("best", (3, 0), self.paper)
        self.assertIs(holds(self.plan, told), True)
        self.assertIs(holds(self.plan, ("best", (2, 0), self.paper)), False)
        self.assertIs(holds(self.plan, told), True)


if __name__ == "__main__":
    unittest.main()
