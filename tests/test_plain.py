"""The diagonal by which counts, heights, measures and tellers are told, of any rows of whole numbers."""

import random

from crosslocks.plain import diagonal
from tests.apart import determinant, minors, rank
from tests.samples import Case


def by(one, other):
    """The rows of one times the columns of other."""
    return [[sum(here * there[at] for here, there in zip(row, other)) for at in range(len(other[0]))] for row in one]


class Diagonal(Case):
    def right(self, rows, wide):
        before = [list(row) for row in rows]
        steps, left, right = diagonal(rows, wide)
        with self.subTest(rows):
            self.same(rows, before)
            self.assertTrue(all(step > 0 for step in steps))
            self.assertTrue(all(later % earlier == 0 for earlier, later in zip(steps, steps[1:])))
            self.assertEqual((len(left), len(right)), (len(rows), wide))
            self.assertEqual(abs(determinant(left)), 1)
            self.assertEqual(abs(determinant(right)), 1)
            if wide:
                wanted = [[0] * wide for row in rows]
                for at, step in enumerate(steps):
                    wanted[at][at] = step
                self.same(by(by(left, rows), right), wanted)
        return steps

    def test_by_hand(self):
        self.same(self.right([[2, 0], [0, 3]], 2), [1, 6])
        self.same(self.right([[4, 0], [0, 6]], 2), [2, 12])
        self.same(self.right([[6, 0, 0], [0, 10, 0], [0, 0, 15]], 3), [1, 30, 30])
        self.same(self.right([[0, 0], [0, 0], [0, 0]], 2), [])
        self.same(self.right([[-7]], 1), [7])
        self.same(self.right([[], []], 0), [])
        self.same(self.right([[2, 4, 4], [-6, 6, 12], [10, -4, -16]], 3), [2, 6, 12])

    def test_of_all_sizes(self):
        chance = random.Random(95)
        for most in (1, 2, 9, 60):
            for _ in range(60):
                high, wide = chance.randint(1, 4), chance.randint(1, 4)
                rows = [[chance.randint(-most, most) for _ in range(wide)] for _ in range(high)]
                steps = self.right(rows, wide)
                self.assertEqual(len(steps), rank(rows))
                product = 1
                for size, step in enumerate(steps, start=1):
                    product *= step
                    self.assertEqual(product, minors(rows, size))
