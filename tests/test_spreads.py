import unittest

from ringcubes.braids import closed_braid
from ringcubes.drawings import Drawing
from ringcubes.leftovers import rule_left
from ringcubes.makings import rooms_product, side_by_side
from ringcubes.rooms import rooms
from ringcubes.rules import rule_kind
from ringcubes.spreads import spread
from ringcubes.views import mirrored, way_turned
from tests.plainrules import FEW, MORE, NO_RULES, RULES, plain_spread
from tests.samples import (EIGHT, HOPF, KINK_BACK, LEFT, LOOSE, NO_DRAWINGS, NOTHING, RING, RINGS, TREFOIL, is_ascending,
                           same_kinds, told_error)
from tests.test_rooms import NO_PRIMES
from tests.test_views import shuffled
from tests.walks import walk

BIG = closed_braid(2, [1] * 11)
TEN = closed_braid(3, [1, 2] * 5)


class SpreadTest(unittest.TestCase):
    def test_by_hand(self):
        self.assertTrue(same_kinds(spread(2, (1, 0), TREFOIL), {(0, 1): 1, (0, 3): 1}))
        self.assertTrue(same_kinds(spread(3, (0, 1), LEFT), {(0, -3): 1, (0, -1): 1}))
        self.assertTrue(same_kinds(spread(3, (0, 1), HOPF), {(0, 0): 1, (0, 2): 1, (2, 4): 1, (2, 6): 1}))
        self.assertTrue(same_kinds(spread(3, (0, 0), TREFOIL), {(0, 1): 1, (0, 3): 1, (2, 5): 1, (3, 9): 1}))
        self.assertTrue(same_kinds(spread(5, (1, 1), NOTHING), {(0, 0): 1}))
        self.assertTrue(same_kinds(spread(5, (1, 1), RINGS), {(0, -3): 1, (0, -1): 3, (0, 1): 3, (0, 3): 1}))
        self.assertEqual(spread(2, (1, 1), TEN), {(0, 7): 1, (0, 9): 1})

    def test_by_the_words_of_the_document(self):
        for drawing in FEW:
            for rule in RULES[:5]:
                for prime in (2, 3):
                    self.assertTrue(same_kinds(spread(prime, rule, drawing), plain_spread(prime, rule, drawing)),
                                    (prime, rule, drawing.crossings))

    def test_kinds(self):
        for drawing in MORE:
            for prime in (2, 3, 5, 97):
                goal = spread(prime, (1, 0), drawing)
                for rule in RULES:
                    told = spread(prime, rule, drawing)
                    self.assertTrue(is_ascending(told))
                    if rule_kind(prime, rule) == "double":
                        self.assertTrue(same_kinds(told, rooms(prime, drawing)))
                    else:
                        self.assertTrue(same_kinds(told, goal))
                    heights = {}
                    for (height, _), many in told.items():
                        heights[height] = heights.get(height, 0) + many
                    self.assertEqual(heights, rule_left(prime, rule, drawing))

    def test_moves_keep_it(self):
        for seed, drawing in enumerate((HOPF, TREFOIL, EIGHT, KINK_BACK, LOOSE, way_turned(HOPF, 0))):
            for prime, rule in ((2, (1, 0)), (3, (0, 2))):
                told = spread(prime, rule, drawing)
                for _, goal in walk(drawing, 5, 8, seed):
                    self.assertEqual(spread(prime, rule, goal), told)
                self.assertEqual(spread(prime, rule, shuffled(drawing, seed)), told)

    def test_mirrored(self):
        for drawing in MORE:
            for prime, rule in ((2, (1, 1)), (5, (1, 0)), (3, (0, 0))):
                told = {(-i, -j): many for (i, j), many in spread(prime, rule, drawing).items()}
                self.assertEqual(spread(prime, rule, mirrored(drawing)), told)

    def test_side_by_side(self):
        for one, other in ((TREFOIL, LEFT), (HOPF, KINK_BACK), (EIGHT, RING), (way_turned(HOPF, 1), TREFOIL)):
            for prime, rule in ((2, (1, 0)), (3, (0, 2)), (3, (0, 0))):
                goal = rooms_product(spread(prime, rule, one), spread(prime, rule, other))
                self.assertEqual(spread(prime, rule, side_by_side(one, other)), goal)

    def test_rings_beside_ten_crossings(self):
        told = spread(3, (1, 0), Drawing(TEN.crossings, 2))
        self.assertEqual(told, {(0, 5): 1, (0, 7): 3, (0, 9): 3, (0, 11): 1})

    def test_refuses(self):
        for thing in NO_PRIMES:
            self.assertEqual(told_error(spread, thing, None, None), ("BadPrime",), thing)
        for thing in NO_RULES:
            self.assertEqual(told_error(spread, 3, thing, None), ("BadRule",), thing)
        for thing in NO_DRAWINGS:
            self.assertEqual(told_error(spread, 3, (0, 0), thing), ("BadDrawing", None))
        self.assertEqual(told_error(spread, 3, (0, 0), BIG), ("TooMany", 10))
        spread(drawing=TREFOIL, rule=(1, 0), prime=2).clear()
        self.assertEqual(len(spread(2, (1, 0), TREFOIL)), 2)


if __name__ == "__main__":
    unittest.main()
