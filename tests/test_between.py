import itertools
import unittest

from ringcubes.between import maps_between
from ringcubes.chains import Chain, chain_of
from ringcubes.joins import patch_beside, patch_tied
from ringcubes.leastpapers import least_paper
from ringcubes.patches import Patch, drawing_of, patch_of
from ringcubes.rooms import rooms
from ringcubes.surfaces import put_behind
from ringcubes.twists import twist_row
from tests.chainworks import PLAIN, mixed, some_chains
from tests.patchworks import CROSS, CROSS_BACK, KINKED, PATCHES, STRAND, braid_patch, plain_sheets
from tests.samples import EIGHT, HOPF, KINK, RING, is_ascending, plain_rank, same_kinds, told_error
from tests.test_leasts import FLAT, NO_CHAINS, TALL, TWO


def plain_between(one, other):
    """What steps leave of maps, by the words of the document and dense rows."""
    spots = {}
    for (i, here), (j, there) in itertools.product(enumerate(one.entries), enumerate(other.entries)):
        many = len(plain_sheets(here[2], there[2]))
        for bits in itertools.product((0, 1), repeat=many):
            dots = tuple(at for at, bit in enumerate(bits) if bit)
            level = one.places // 2 - many + 2 * len(dots)
            spots.setdefault((there[0] - here[0], there[1] - here[1] - level), []).append((i, j, dots))

    def led(i, j, dots, height):
        row = {}
        for k, l, surface in other.steps:
            if k == j:
                told = put_behind(one.prime, one.entries[i][2], other.entries[j][2], other.entries[l][2],
                                  ((dots, 1),), surface)
                for more, number in told:
                    row[(i, l, more)] = row.get((i, l, more), 0) + number
        for k, l, surface in one.steps:
            if l == i:
                told = put_behind(one.prime, one.entries[k][2], one.entries[i][2], other.entries[j][2],
                                  surface, ((dots, 1),))
                for more, number in told:
                    row[(k, j, more)] = row.get((k, j, more), 0) - (-1) ** (height % 2) * number
        return row

    ranks, found = {}, {}
    for height, weight in sorted(spots):
        goals = spots.get((height + 1, weight), [])
        rows = [led(*state, height) for state in spots[(height, weight)]]
        ranks[(height, weight)] = plain_rank(one.prime, [[row.get(goal, 0) for goal in goals] for row in rows])
        many = len(rows) - ranks[(height, weight)] - ranks.get((height - 1, weight), 0)
        if many:
            found[(height, weight)] = many
    return found


def both_sides(one, other):
    """The drawing that two patches make, one seen from behind."""
    rows = [(-s, b, a, d, c) for s, a, b, c, d in one.crossings]
    patch = patch_beside(Patch(rows, [(arc, -way) for arc, way in one.rim[::-1]], one.rings), other)
    for place in range(len(one.rim) - 1, -1, -1):
        patch = patch_tied(patch, place)
    return drawing_of(patch)


FOUR = [CROSS, braid_patch(2, [1, 1]), braid_patch(2, [1, -1, 1])]
UP = [braid_patch(2, word) for word in ([], [1], [-1], [1, 1], [-1, -1], [1, 1, 1], [1, -1])]
SIX = [braid_patch(3, word) for word in ([], [1], [1, -2], [1, 2, 1], [-1, -2])]
KNOTS = [STRAND, KINKED, patch_tied(braid_patch(2, [1, 1, 1]), 1), patch_tied(braid_patch(2, [-1, -1, -1]), 1)]


class BetweenTest(unittest.TestCase):
    def test_by_hand(self):
        self.assertTrue(same_kinds(maps_between(chain_of(3, STRAND), chain_of(3, STRAND)), {(0, -2): 1, (0, 0): 1}))
        empty = Chain(3, 0, [(0, 0, ())], [])
        self.assertEqual(maps_between(empty, empty), {(0, 0): 1})
        self.assertEqual(maps_between(empty, Chain(3, 0, [(2, 5, ())], [])), {(2, 5): 1})
        self.assertEqual(maps_between(Chain(3, 0, [(2, 5, ())], []), empty), {(-2, -5): 1})
        self.assertEqual(maps_between(Chain(3, 4, [], []), Chain(3, 4, [(0, 0, FLAT)], [])), {})
        flat, tall = Chain(3, 4, [(0, 0, FLAT)], []), Chain(3, 4, [(0, 0, TALL)], [])
        self.assertEqual(maps_between(flat, tall), {(0, -3): 1, (0, -1): 1})
        self.assertEqual(maps_between(flat, flat), {(0, -4): 1, (0, -2): 2, (0, 0): 1})

    def test_by_dense_rows(self):
        chains = [chain for chain in some_chains(14) if chain.places <= 6]
        found = 0
        for one, other in itertools.product(chains, repeat=2):
            if (one.prime, one.places) != (other.prime, other.places):
                self.assertEqual(told_error(maps_between, one, other), ("BadChain", "fit"))
            elif len(one.entries) * len(other.entries) <= 60:
                found += 1
                told = maps_between(one, other)
                self.assertTrue(same_kinds(told, plain_between(one, other)))
                self.assertTrue(is_ascending(told))
        self.assertGreater(found, 30)

    def test_small_chains_have_the_same(self):
        for seed, patch in enumerate((CROSS, KINKED, braid_patch(2, [1, -1, 1]), patch_of(HOPF), braid_patch(3, [1, -2]))):
            for prime in (2, 3):
                chain = chain_of(prime, patch)
                told = maps_between(chain, chain)
                self.assertIn((0, 0), told)
                for one in (chain, least_paper(chain)[0], mixed(chain, seed)):
                    for other in (chain, least_paper(chain)[0], mixed(chain, seed + 9)):
                        self.assertEqual(maps_between(one, other), told)

    def test_chains_with_nothing_left(self):
        pair = Chain(5, 2, [(0, 0, TWO), (1, 0, TWO)], [(0, 1, PLAIN)])
        strand = chain_of(5, STRAND)
        for one, other in ((pair, pair), (pair, strand), (strand, pair), (Chain(5, 2, [], []), strand)):
            self.assertEqual(maps_between(one, other), {})

    def test_rooms_of_both_together(self):
        for patches in (UP, SIX, KNOTS, [patch_of(RING), patch_of(KINK), patch_of(HOPF), patch_of(EIGHT)]):
            for one, other in itertools.product(patches, repeat=2):
                for prime in (2, 3):
                    drawing = both_sides(one, other)
                    half = len(one.rim) // 2
                    told = maps_between(chain_of(prime, one), chain_of(prime, other))
                    goal = {(i, j - half): many for (i, j), many in rooms(prime, drawing).items()}
                    self.assertTrue(same_kinds(told, goal))

    def test_rooms_of_patches_with_all_ways(self):
        found = 0
        for one, other in itertools.product(PATCHES, repeat=2):
            if [way for _, way in one.rim] == [way for _, way in other.rim] and len(one.rim) in (2, 4, 6, 8):
                many = len(one.crossings) + len(other.crossings)
                if one != other and many <= 6 and one.rings + other.rings <= 1:
                    found += 1
                    told = maps_between(chain_of(3, one), chain_of(3, other))
                    goal = rooms(3, both_sides(one, other))
                    self.assertEqual(told, {(i, j - len(one.rim) // 2): many for (i, j), many in goal.items()})
        self.assertGreater(found, 10)

    def test_longer_patches(self):
        for one, other in ((twist_row(5), twist_row(-3)), (twist_row(7), twist_row(2)), (twist_row(-6), twist_row(0))):
            for prime in (2, 3, 97):
                goal = rooms(prime, both_sides(one, other))
                told = maps_between(chain_of(prime, one), chain_of(prime, other))
                self.assertEqual(told, {(i, j - 2): many for (i, j), many in goal.items()})

    def test_refuses(self):
        chain = chain_of(3, CROSS_BACK)
        for thing in NO_CHAINS:
            self.assertEqual(told_error(maps_between, thing, None), ("BadChain", None))
            self.assertEqual(told_error(maps_between, thing, chain), ("BadChain", None))
            self.assertEqual(told_error(maps_between, chain, thing), ("BadChain", None))
        for other in (chain_of(2, CROSS_BACK), chain_of(3, STRAND), chain_of(3, patch_of(HOPF)), Chain(3, 0, [], [])):
            self.assertEqual(told_error(maps_between, chain, other), ("BadChain", "fit"))
        self.assertEqual(maps_between(other=chain, one=chain), maps_between(chain, chain))


if __name__ == "__main__":
    unittest.main()
