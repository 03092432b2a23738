import unittest

from ringcubes.chains import Chain, chain_of
from ringcubes.leasts import is_least, least_numbers
from ringcubes.patches import Patch, patch_of
from ringcubes.rooms import rooms
from tests.chainworks import PLAIN, mixed, plain_least_numbers, some_chains
from tests.patchworks import CROSS, EMPTY, KINKED, STRAND, braid_patch
from tests.samples import SMALL, is_ascending, same_kinds, told_error

TWO = (1, 0)
FLAT = (1, 0, 3, 2)
TALL = (3, 2, 1, 0)
NO_CHAINS = (None, True, 0, "chain", (), [], {}, (2, 0, (), ()), Chain, EMPTY, STRAND)


class LeastNumbersTest(unittest.TestCase):
    def test_by_hand(self):
        self.assertTrue(same_kinds(least_numbers(chain_of(3, KINKED)), {(0, 0, TWO): 1}))
        self.assertTrue(same_kinds(least_numbers(chain_of(5, CROSS)), {(0, 1, FLAT): 1, (1, 2, TALL): 1}))
        self.assertEqual(least_numbers(Chain(2, 4, [], [])), {})
        pair = Chain(3, 2, [(0, 0, TWO), (1, 0, TWO)], [(0, 1, (((), 2),))])
        self.assertEqual(least_numbers(pair), {})
        alone = Chain(3, 2, [(0, 0, TWO), (1, 0, TWO), (0, 0, TWO)], [(0, 1, PLAIN)])
        self.assertEqual(least_numbers(alone), {(0, 0, TWO): 1})

    def test_steps_that_add_up(self):
        entries = [(0, 0, TWO)] * 2 + [(1, 0, TWO)] * 2
        for numbers, many in (((1, 1, 1, 1), 1), ((1, 1, 1, 2), 0), ((1, 2, 2, 4), 1), ((1, 2, 2, 3), 0)):
            steps = [(i, j, (((), number),)) for (i, j), number in zip(((0, 2), (0, 3), (1, 2), (1, 3)), numbers)]
            told = {(0, 0, TWO): many, (1, 0, TWO): many} if many else {}
            self.assertEqual(least_numbers(Chain(7, 2, entries, steps)), told)

    def test_only_plain_parts_count(self):
        dots = Chain(3, 2, [(0, 0, TWO), (1, 2, TWO)], [(0, 1, (((0,), 1),))])
        self.assertEqual(least_numbers(dots), {(0, 0, TWO): 1, (1, 2, TWO): 1})
        # Saddles without dots have no plain part.
        saddle = Chain(3, 4, [(0, 0, FLAT), (1, 1, TALL)], [(0, 1, PLAIN)])
        self.assertEqual(least_numbers(saddle), {(0, 0, FLAT): 1, (1, 1, TALL): 1})

    def test_by_dense_rows(self):
        for chain in some_chains(90):
            told = least_numbers(chain)
            self.assertTrue(same_kinds(told, plain_least_numbers(chain)))
            self.assertTrue(is_ascending(told))

    def test_mixed_chains_have_the_same(self):
        for patch in (CROSS, KINKED, braid_patch(2, [1, 1, 1]), braid_patch(3, [1, -2, 1]), Patch([], [], 2)):
            for prime in (2, 5):
                chain = chain_of(prime, patch)
                for seed in range(4):
                    self.assertEqual(least_numbers(mixed(chain, seed)), least_numbers(chain))

    def test_of_drawings(self):
        for drawing in SMALL:
            for prime in (2, 3):
                told = {(height, weight, ()): many for (height, weight), many in rooms(prime, drawing).items()}
                self.assertEqual(least_numbers(chain_of(prime, patch_of(drawing))), told)

    def test_refuses(self):
        for thing in NO_CHAINS:
            self.assertEqual(told_error(least_numbers, thing), ("BadChain", None))
            self.assertEqual(told_error(is_least, thing), ("BadChain", None))
        chain = Chain(2, 0, [], [])
        self.assertEqual((least_numbers(chain=chain), is_least(chain=chain)), ({}, True))
        least_numbers(chain_of(2, CROSS)).clear()


class IsLeastTest(unittest.TestCase):
    def test_by_hand(self):
        self.assertIs(is_least(chain_of(2, CROSS)), True)
        self.assertIs(is_least(chain_of(2, KINKED)), False)
        self.assertIs(is_least(Chain(2, 4, [(0, 0, FLAT), (1, 1, TALL)], [(0, 1, PLAIN)])), True)
        self.assertIs(is_least(Chain(2, 4, [(0, 0, FLAT), (1, 2, FLAT)], [(0, 1, (((1,), 1),))])), True)
        self.assertIs(is_least(Chain(2, 4, [(0, 0, FLAT), (1, 0, FLAT)], [(0, 1, PLAIN)])), False)
        self.assertIs(is_least(Chain(3, 0, [(0, 0, ()), (1, 0, ())], [(0, 1, (((), 2),))])), False)

    def test_by_the_words(self):
        seen = {True: 0, False: 0}
        for chain in some_chains(90):
            plain = [step for step in chain.steps if chain.entries[step[0]][2] == chain.entries[step[1]][2]
                     and () in dict(step[2])]
            self.assertIs(is_least(chain), not plain)
            seen[not plain] += 1
        self.assertGreater(min(seen.values()), 4)


if __name__ == "__main__":
    unittest.main()
