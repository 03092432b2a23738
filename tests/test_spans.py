import itertools
import random
import unittest
from math import gcd

from ringcubes.spans import diagonal, divisor_chain, spanned
from tests.samples import plain_rank


def minors_chain(rows):
    """The numbers by which Smith's form is told: each the greatest common divisor of minors, over the one before."""
    many = min(len(rows), len(rows[0])) if rows else 0
    chain, before = [], 1
    for size in range(1, many + 1):
        common = 0
        for picked in itertools.combinations(range(len(rows)), size):
            for columns in itertools.combinations(range(len(rows[0])), size):
                common = gcd(common, determinant([[rows[row][column] for column in columns] for row in picked]))
        if common == 0:
            break
        chain.append(common // before)
        before = common
    return chain


def determinant(rows):
    """A determinant by its first row."""
    if not rows:
        return 1
    return sum((-1) ** at * rows[0][at] * determinant([row[:at] + row[at + 1:] for row in rows[1:]])
               for at in range(len(rows)) if rows[0][at])


def thin(rows):
    """Rows as dicts."""
    return [{at: number for at, number in enumerate(row) if number} for row in rows]


def some_rows(seed):
    """Rows of small numbers, with many that hang together."""
    chance = random.Random(seed)
    wide = chance.randint(1, 4)
    numbers = chance.choice([(0, 1, -1), (0, 2, -2, 4), (0, 0, 1, 2, 3), (6, 4, -9, 0), tuple(range(-7, 8))])
    return [[chance.choice(numbers) for _ in range(wide)] for _ in range(chance.randint(1, 4))]


class SpansTest(unittest.TestCase):
    def test_over_primes(self):
        for seed in range(300):
            rows = some_rows(seed)
            for prime in (2, 3, 5, 97):
                columns, rank, twists = spanned(prime, thin(rows))
                self.assertEqual((len(columns), rank, twists), (rank, plain_rank(prime, rows), ()))
                self.assertEqual(len(set(columns)), len(columns))

    def test_over_whole_numbers(self):
        for seed in range(600):
            rows = some_rows(seed)
            chain = minors_chain(rows)
            _, rank, twists = spanned(0, thin(rows))
            self.assertEqual((rank, twists), (len(chain), tuple(number for number in chain if number > 1)))
            self.assertEqual(divisor_chain(diagonal([row for row in thin(rows) if row])),
                             tuple(number for number in chain if number > 1))

    def test_rows_and_columns_kept_tell_all(self):
        # The rows in the columns kept have the determinant 1 or -1: so these states are told by the rows.
        for seed in range(200):
            rows = some_rows(seed)
            columns, _, _ = spanned(0, thin(rows))
            found = [abs(determinant([[rows[row][column] for column in columns] for row in picked]))
                     for picked in itertools.combinations(range(len(rows)), len(columns))]
            self.assertTrue(gcd(*found) == 1)

    def test_rows_are_not_changed(self):
        rows = thin([[1, 2], [2, 5], [4, 6]])
        kept = [dict(row) for row in rows]
        spanned(0, rows)
        spanned(3, rows)
        self.assertEqual(rows, kept)

    def test_divisor_chain(self):
        for numbers, told in (([], ()), ([1], ()), ([2, 3], (6,)), ([2, 4], (2, 4)), ([4, 2], (2, 4)),
                              ([6, 4], (2, 12)), ([2, 2, 2], (2, 2, 2)), ([2, 3, 5], (30,)), ([6, 10, 15], (30, 30)),
                              ([4, 6, 9], (6, 36)), ([1, 8, 1, 12], (4, 24))):
            for row in itertools.permutations(numbers):
                self.assertEqual(divisor_chain(list(row)), told)


if __name__ == "__main__":
    unittest.main()
