import unittest

from ringcubes.braids import closed_braid
from ringcubes.drawings import Drawing
from ringcubes.older import older_row
from ringcubes.oddrooms import odd_rooms, odd_whole_rooms
from ringcubes.rooms import rooms, rooms_of, whole_rooms
from ringcubes.views import in_order, mirrored, turned_about
from tests.oddworks import plain_odd_rooms
from tests.samples import (BORROMEAN, EIGHT, HOPF, KINK, NO_DRAWINGS, NOTHING, RINGS, SAMPLES, TREFOIL, is_ascending,
                           same_kinds, told_error)
from tests.test_odd import ALL, BIG, NO_ARROWS, arrows_of
from tests.test_rooms import NO_PRIMES
from tests.walks import walk

KNOTS = SAMPLES + (closed_braid(3, [1, 2] * 4), closed_braid(4, [1, -2, 3, -2, 1, 3]))


class OddRoomsTest(unittest.TestCase):
    def test_by_hand(self):
        told = {(0, 1): (1, ()), (0, 3): (1, ()), (2, 5): (1, ()), (2, 7): (1, ()), (3, 7): (1, ()), (3, 9): (1, ())}
        self.assertTrue(same_kinds(odd_whole_rooms(closed_braid(2, [1, 1, 1]), None), told))
        self.assertTrue(same_kinds(odd_rooms(3, TREFOIL, (1, 0, 1)), {spot: 1 for spot in told}))
        for many in range(5):
            rings = Drawing([], many)
            self.assertEqual(odd_whole_rooms(rings, None), whole_rooms(rings))
            self.assertEqual(odd_rooms(5, rings, ()), rooms(5, rings))

    def test_by_dense_rows(self):
        for drawing in ALL:
            for arrows in arrows_of(drawing)[::4]:
                for prime in (2, 3):
                    told = odd_rooms(prime, drawing, arrows)
                    self.assertTrue(same_kinds(told, plain_odd_rooms(prime, drawing, arrows)))

    def test_twists(self):
        # The rooms of an odd torus string have a twist of 3.
        told = odd_whole_rooms(closed_braid(3, [1, 2] * 4), None)
        self.assertIn(3, [twist for _, twists in told.values() for twist in twists])
        self.assertNotEqual(odd_rooms(3, closed_braid(3, [1, 2] * 4), None), odd_rooms(5, closed_braid(3, [1, 2] * 4), None))

    def test_facts(self):
        for drawing in KNOTS:
            whole = odd_whole_rooms(drawing, None)
            self.assertTrue(is_ascending(whole))
            for arrows in arrows_of(drawing):
                self.assertTrue(same_kinds(odd_whole_rooms(drawing, arrows), whole))
            for prime in (2, 3, 5):
                told = odd_rooms(prime, drawing, arrows_of(drawing)[-1])
                self.assertTrue(same_kinds(told, rooms_of(prime, whole)))
                row = {}
                for (height, weight), many in told.items():
                    row[weight] = row.get(weight, 0) + (-1) ** (height % 2) * many
                self.assertEqual({weight: row[weight] for weight in sorted(row) if row[weight]}, older_row(drawing))
                back = {(-height, -weight): many for (height, weight), many in told.items()}
                self.assertEqual(odd_rooms(prime, mirrored(drawing), None), back)
            self.assertEqual(odd_rooms(2, drawing, None), rooms(2, drawing))

    def test_behind_moves(self):
        words = set()
        for seed in range(12):
            drawing = (TREFOIL, EIGHT, HOPF, KINK, RINGS, NOTHING)[seed % 6]
            if drawing == NOTHING:
                drawing = Drawing([], 1)
            goal = odd_whole_rooms(drawing, None)
            for move, moved in walk(drawing, 5, 8, seed):
                words.add(move[0])
                self.assertEqual(odd_whole_rooms(moved, arrows_of(moved)[-1]), goal)
        self.assertGreater(len(words), 4)

    def test_other_views(self):
        for drawing in (EIGHT, BORROMEAN):
            goal = odd_whole_rooms(drawing, None)
            self.assertEqual(odd_whole_rooms(turned_about(drawing), None), goal)
            order = list(range(len(drawing.crossings)))[::-1]
            self.assertEqual(odd_whole_rooms(in_order(drawing, order), None), goal)

    def test_refuses(self):
        for thing in NO_PRIMES:
            self.assertEqual(told_error(odd_rooms, thing, None, 0), ("BadPrime",), thing)
        for thing in NO_DRAWINGS:
            self.assertEqual(told_error(odd_rooms, 2, thing, 0), ("BadDrawing", None))
            self.assertEqual(told_error(odd_whole_rooms, thing, 0), ("BadDrawing", None))
        for thing in NO_ARROWS:
            self.assertEqual(told_error(odd_rooms, 2, TREFOIL, thing), ("BadArrows",), thing)
            self.assertEqual(told_error(odd_whole_rooms, TREFOIL, thing), ("BadArrows",), thing)
            self.assertEqual(told_error(odd_whole_rooms, BIG, thing), ("BadArrows",), thing)
        self.assertEqual(told_error(odd_rooms, 2, BIG, None), ("TooMany", 10))
        self.assertEqual(told_error(odd_whole_rooms, BIG, (1,) * 11), ("TooMany", 10))
        self.assertEqual(odd_rooms(arrows=None, drawing=NOTHING, prime=2), {(0, 0): 1})
        self.assertEqual(odd_whole_rooms(arrows=None, drawing=NOTHING), {(0, 0): (1, ())})
        odd_whole_rooms(TREFOIL, None).clear()
        self.assertEqual(len(odd_whole_rooms(TREFOIL, None)), 6)


if __name__ == "__main__":
    unittest.main()
