import unittest
from fractions import Fraction

from aids import dot, is_plain, is_whole, maker, numbers, same
from cutyard.bases import plain_basis
from cutyard.levels import levels
from cutyard.shorter import shorten

GREAT = 10 ** 200


def rank(lists):
    """How many of the lists don't hang on the others."""
    lines = [[Fraction(a) for a in entries] for entries in lists]
    many = 0
    for k in range(len(lines[0]) if lines else 0):
        pivot = next((i for i in range(many, len(lines)) if lines[i][k] != 0), None)
        if pivot is None:
            continue
        lines[many], lines[pivot] = lines[pivot], lines[many]
        for i in range(many + 1, len(lines)):
            factor = lines[i][k] / lines[many][k]
            lines[i] = [a - factor * b for a, b in zip(lines[i], lines[many])]
        many += 1
    return many


class LevelsTest(unittest.TestCase):
    def right(self, n, lists):
        """Each clause of [29]; many is told."""
        told = levels(n, lists)
        self.assertTrue(is_plain(told))
        turns, columns, many = told
        self.assertTrue(is_whole(many) and 0 <= many <= n)
        for part in (turns, columns):
            self.assertIsInstance(part, tuple)
            self.assertEqual(len(part), n)
            self.assertTrue(all(isinstance(line, tuple) and len(line) == n for line in part))
        for i in range(n):
            for k in range(n):
                self.assertEqual(dot(turns[i], columns[k]), int(i == k))
        products = [[dot(entries, column) for column in columns] for entries in lists]
        self.assertTrue(all(not any(line[many:]) for line in products))
        for k in range(many):
            self.assertTrue(any(line[k] != 0 and not any(line[k + 1:]) for line in products), (n, lists))
        self.assertEqual(many, rank(lists))
        return many

    def test_no_unknowns(self):
        self.assertTrue(same(levels(0, ()), ((), (), 0)))
        self.assertTrue(same(levels(0, ((), ())), ((), (), 0)))

    def test_no_lists_and_lists_of_noughts(self):
        for n in (1, 2, 8):
            self.assertEqual(self.right(n, ()), 0)
            self.assertEqual(self.right(n, ((0,) * n,)), 0)
            self.assertEqual(self.right(n, ((0,) * n,) * 3), 0)

    def test_one_unknown(self):
        for number in (1, -1, 2, -7, GREAT, -GREAT):
            self.assertEqual(self.right(1, ((number,),)), 1)
        self.assertEqual(self.right(1, ((0,), (6,), (0,), (4,))), 1)

    def test_one_list(self):
        for entries in ((1, 0), (0, 1), (2, -2), (6, 10), (-6, 15), (0, -4), (5, 5)):
            self.assertEqual(self.right(2, (entries,)), 1)
        # The first turn has what the list has without a common divisor.
        for entries in ((6, 10, 15), (6, -10, 4), (0, 0, 9), (12, 18, -30)):
            self.assertEqual(self.right(3, (entries,)), 1)
            turns, columns, many = levels(3, (entries,))
            factor = dot(entries, columns[0])
            self.assertEqual(tuple(factor * number for number in turns[0]), entries)

    def test_multiples_of_one_another(self):
        self.assertEqual(self.right(2, ((2, -3), (4, -6), (-2, 3))), 1)
        self.assertEqual(self.right(3, ((2, 4, 6), (1, 2, 3), (0, 0, 0), (-3, -6, -9))), 1)
        self.assertEqual(self.right(3, ((2, 4, 6), (1, 2, 3), (1, 2, 4), (-3, -6, -9))), 2)

    def test_numbers_with_a_common_divisor(self):
        self.assertEqual(self.right(2, ((6, 4), (4, 6))), 2)
        self.assertEqual(self.right(3, ((6, 10, 14), (10, 14, 6))), 2)
        self.assertEqual(self.right(4, ((12, 18, 0, 6), (0, 9, 15, 3), (12, 27, 15, 9))), 2)

    def test_units(self):
        for n in range(9):
            units = tuple(tuple(int(i == k) for i in range(n)) for k in range(n))
            self.assertEqual(self.right(n, units), n)
            self.assertEqual(self.right(n, units[:n // 2]), n // 2)
            self.assertEqual(self.right(n, units[::-1] + units), n)

    def test_made_up_lists(self):
        chance = maker(71)
        seen = set()
        for _ in range(600):
            n = chance.randint(1, 8)
            size = chance.choice((1, 2, 5, 30))
            lists = [numbers(chance, n, size) for _ in range(chance.randint(0, n + 3))]
            if lists and chance.random() < 0.5:
                one, other = chance.choice(lists), chance.choice(lists)
                a, b = numbers(chance, 2, 3)
                lists.insert(chance.randint(0, len(lists)), tuple(a * x + b * y for x, y in zip(one, other)))
            seen.add((n, self.right(n, tuple(lists))))
        self.assertGreater(len(seen), 30)

    def test_great_lists(self):
        chance = maker(72)
        for n, count in ((8, 1), (8, 3), (8, 7), (8, 8), (5, 80), (2, 1)):
            lists = tuple(numbers(chance, n, GREAT - 1) for _ in range(count))
            self.assertEqual(self.right(n, lists), min(n, count))

    def test_eighty_lists_of_few_ranks(self):
        chance = maker(73)
        ground = [numbers(chance, 8, 9) for _ in range(4)]
        lists = []
        for _ in range(80):
            factors = numbers(chance, 4, 5)
            lists.append(tuple(sum(f * line[k] for f, line in zip(factors, ground)) for k in range(8)))
        self.assertEqual(self.right(8, tuple(lists)), 4)


class ShortenTest(unittest.TestCase):
    def lengths(self, vectors):
        """The vectors across those ahead of them, as fractions, and how they lean on these."""
        across = []
        leans = []
        for vector in vectors:
            rest = [Fraction(a) for a in vector]
            lean = []
            for other in across:
                lean.append(Fraction(dot(vector, other)) / dot(other, other))
                rest = [a - lean[-1] * b for a, b in zip(rest, other)]
            across.append(rest)
            leans.append(lean)
        return [dot(rest, rest) for rest in across], leans

    def test_short_vectors(self):
        chance = maker(74)
        for _ in range(120):
            n = chance.randint(1, 6)
            size = chance.choice((3, 100, 10 ** 30))
            vectors = [numbers(chance, n, size) + tuple(int(i == k) for i in range(n)) for k in range(n)]
            basis = plain_basis(n)
            shorten(basis, vectors)
            for i in range(n):
                for k in range(n):
                    self.assertEqual(dot(basis.turns[i], basis.columns[k]), int(i == k))
            short = [tuple(dot(turn, [vector[k] for vector in vectors]) for k in range(2 * n)) for turn in basis.turns]
            squares, leans = self.lengths(short)
            self.assertTrue(all(abs(lean) <= Fraction(1, 2) for line in leans for lean in line))
            for k in range(1, n):
                self.assertGreaterEqual(squares[k] + leans[k][k - 1] ** 2 * squares[k - 1], Fraction(3, 4) * squares[k - 1])

    def test_nothing_to_shorten(self):
        basis = plain_basis(0)
        shorten(basis, [])
        self.assertEqual((basis.turns, basis.columns), ([], []))
        basis = plain_basis(3)
        shorten(basis, [(5, 0, 0), (0, 5, 0), (0, 0, 5)])
        self.assertEqual(basis.turns, plain_basis(3).turns)


if __name__ == "__main__":
    unittest.main()
