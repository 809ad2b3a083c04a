import unittest

from aids import dot, is_plain, least_row, made_givens, maker, numbers, same
from cutyard.plans import givens
from cutyard.ways import inner

GREAT = 10 ** 200


def leasts(n):
    return tuple(least_row(n, k, 0) for k in range(n))


class InnerTest(unittest.TestCase):
    def right(self, rows):
        """Each clause of [30]; the numbers of the tied givens are told."""
        told = inner(rows)
        self.assertTrue(is_plain(told))
        ray, weights = told
        n = len(rows[0][0]) if rows else 0
        self.assertEqual(len(ray), n)
        self.assertEqual(len(weights), len(rows))
        self.assertTrue(all(number >= 0 for number in ray + weights))
        grown = [dot(entries, ray) for entries, _ in rows]
        self.assertTrue(all(number >= 0 for number in grown))
        for k in range(n):
            self.assertEqual(sum(weight * row[0][k] for weight, row in zip(weights, rows)), 0)
        for number, weight in zip(grown, weights):
            self.assertEqual([number > 0, weight > 0].count(True), 1, rows)
        return [k for k, number in enumerate(grown) if number == 0]

    def test_no_givens(self):
        self.assertTrue(same(inner(()), ((), ())))

    def test_no_unknowns(self):
        self.assertEqual(self.right((((), 1),)), [0])
        self.assertEqual(self.right((((), 1), ((), 0), ((), -5))), [0, 1, 2])

    def test_leasts_alone(self):
        for n in range(1, 9):
            self.assertEqual(self.right(leasts(n)), [])

    def test_mosts(self):
        # x has a most, y has none.
        rows = givens((((0, 5), (3, None)), (), (0, 0)))
        self.assertEqual(self.right(rows), [0, 2])
        self.assertEqual(self.right(givens((((0, 5), (3, 2)), (), (0, 0)))), [0, 1, 2, 3])

    def test_like_entries(self):
        rows = leasts(2) + (((1, -1), 0), ((1, -1), 7), ((2, -2), 1))
        self.assertEqual(self.right(rows), [])

    def test_opposite_entries(self):
        # 2 x - 2 y at least 1 and at most 1.
        self.assertEqual(self.right(leasts(2) + (((2, -2), 1), ((-2, 2), -1))), [2, 3])
        self.assertEqual(self.right(leasts(2) + (((2, 3), 1), ((-4, -6), -9))), [0, 1, 2, 3])
        # Opposite in x - y alone; z is free.
        rows = leasts(3) + (((1, -1, 0), 1), ((-3, 3, 0), -1), ((1, 1, 1), 0), ((0, -1, 1), 2))
        self.assertEqual(self.right(rows), [3, 4])

    def test_tied_by_three(self):
        # x - y, y - z and z - x sum to noughts.
        rows = leasts(3) + (((1, -1, 0), 1), ((0, 1, -1), 1), ((-1, 0, 1), -9))
        self.assertEqual(self.right(rows), [3, 4, 5])

    def test_rows_of_noughts(self):
        self.assertEqual(self.right(leasts(2) + (((0, 0), 1), ((0, 0), -1))), [2, 3])
        self.assertEqual(self.right(givens((((0, 1),), (((0,), 0),), (0,)))), [0, 1, 2])

    def test_more_rays_than_one_are_needed(self):
        # Along each single unknown some row doesn't grow.
        rows = leasts(4) + (((1, 0, 0, 0), 1), ((0, 1, 0, 0), 1), ((0, 0, 1, -1), 1), ((0, -1, 0, 1), 1))
        self.assertEqual(self.right(rows), [])

    def test_bounds_do_not_matter(self):
        chance = maker(81)
        for _ in range(60):
            rows = made_givens(chance, chance.randint(0, 4), chance.randint(0, 6), 3)
            other = tuple((entries, chance.randint(-GREAT, GREAT)) for entries, _ in rows)
            self.assertEqual(self.right(rows), self.right(other))

    def test_made_up_givens(self):
        chance = maker(82)
        counts = {"none": 0, "some": 0, "all": 0}
        for _ in range(800):
            n = chance.randint(0, 5)
            rows = made_givens(chance, n, chance.randint(0, 7), chance.choice((1, 2, 4)))
            if len(rows) > n and chance.random() < 0.4:
                entries = chance.choice(rows[n:])[0]
                factor = chance.choice((-1, -2, 3))
                rows += ((tuple(factor * a for a in entries), 0),)
            tied = self.right(rows)
            counts["none" if not tied else "all" if len(tied) == len(rows) else "some"] += 1
        self.assertTrue(all(count > 50 for count in counts.values()), counts)

    def test_many_rows(self):
        chance = maker(83)
        for size in (1, 2, GREAT - 1):
            for across in (True, False):
                rows = leasts(8)
                ray = tuple(chance.randint(1, 3) for _ in range(8))
                while len(rows) < 80:
                    entries = numbers(chance, 8, size)
                    if across and len(rows) % 8 != 0:
                        # Turned so that it doesn't fall along the ray.
                        entries = entries if dot(entries, ray) >= 0 else tuple(-a for a in entries)
                    elif across:
                        # Across the ray, and once more with the other sign.
                        entries = tuple(a * ray[7] for a in entries[:7]) + (-dot(entries[:7], ray),)
                        rows += ((tuple(-a for a in entries), 5),)
                    rows += ((entries, chance.randint(-size, size)),)
                tied = self.right(rows)
                self.assertEqual(len(tied) < 80, across)

    def test_asked_again_it_is_the_same(self):
        rows = leasts(3) + (((1, -1, 0), 1), ((-3, 3, 0), -1), ((1, 1, 1), 0))
        told = inner(rows)
        inner(leasts(5))
        self.assertTrue(same(inner(rows), told))


if __name__ == "__main__":
    unittest.main()
