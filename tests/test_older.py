import unittest

from ringcubes.braids import closed_braid
from ringcubes.drawings import Drawing, way_count
from ringcubes.older import older_row, widest
from ringcubes.rooms import rooms, whole_rooms
from tests.samples import (EIGHT, KINK, LEFT, NO_DRAWINGS, NO_NUMBERS, NOTHING, RING, RINGS, SAMPLES, SMALL, TREFOIL,
                           is_ascending, plain_spot, plain_states, same_kinds, told_error)


class OlderTest(unittest.TestCase):
    def test_by_hand(self):
        for drawing, told in ((TREFOIL, {1: 1, 3: 1, 5: 1, 9: -1}), (NOTHING, {0: 1}), (RING, {-1: 1, 1: 1}),
                              (RINGS, {-3: 1, -1: 3, 1: 3, 3: 1}), (KINK, {-1: 1, 1: 1}),
                              (LEFT, {-9: -1, -5: 1, -3: 1, -1: 1}), (EIGHT, {-5: 1, 5: 1}),
                              (closed_braid(2, [1, 1]), {0: 1, 2: 1, 4: 1, 6: 1})):
            self.assertTrue(same_kinds(older_row(drawing), told), older_row(drawing))

    def test_the_sum_over_states(self):
        for drawing in SMALL:
            found = {}
            for state in plain_states(drawing):
                height, weight = plain_spot(drawing, state)
                found[weight] = found.get(weight, 0) + (-1) ** abs(height)
            told = older_row(drawing)
            self.assertEqual(told, {weight: many for weight, many in found.items() if many})
            self.assertTrue(is_ascending(told))

    def test_the_sum_over_rooms(self):
        for drawing in SAMPLES + (closed_braid(3, [1, 2] * 4),):
            for prime in (2, 5):
                found = {}
                for (height, weight), many in rooms(prime, drawing).items():
                    found[weight] = found.get(weight, 0) + (-1) ** abs(height) * many
                self.assertEqual(older_row(drawing), {weight: many for weight, many in found.items() if many})

    def test_weights_are_even_or_odd_as_ways(self):
        for drawing in SAMPLES:
            for weight in older_row(drawing):
                self.assertEqual(weight % 2, way_count(drawing) % 2)
            for state in plain_states(drawing)[:50]:
                self.assertEqual(plain_spot(drawing, state)[1] % 2, way_count(drawing) % 2)

    def test_refuses(self):
        for thing in NO_DRAWINGS:
            self.assertEqual(told_error(older_row, thing), ("BadDrawing", None))
        self.assertEqual(told_error(older_row, closed_braid(2, [1] * 11)), ("TooMany", 10))
        self.assertEqual(sum(older_row(Drawing(closed_braid(2, [1] * 10).crossings, 8)).values()), 2 ** 10)
        older_row(drawing=TREFOIL).clear()
        self.assertEqual(len(older_row(TREFOIL)), 4)


class WidestTest(unittest.TestCase):
    def test_by_hand(self):
        for told, many in (({(0, 0): 1}, 1), ({(0, 1): 5, (1, 3): 7, (2, 5): None}, 1), ({(0, 0): 1, (0, 2): 1}, 2),
                           ({(0, 0): 1, (1, 1): 1, (2, 2): 1}, 3), ({(-1, 0): 1, (1, 4): 1, (0, 3): 1}, 2)):
            self.assertTrue(same_kinds(widest(told), many))
        self.assertEqual(widest(told={(0, 0): 1}), 1)

    def test_of_rooms(self):
        for drawing, many in ((NOTHING, 1), (RING, 2), (RINGS, 4), (TREFOIL, 2), (EIGHT, 2),
                              (closed_braid(3, [1, 2] * 4), 3)):
            self.assertEqual(widest(rooms(3, drawing)), many)
        self.assertEqual(widest(whole_rooms(TREFOIL)), 2)

    def test_wrong_tables(self):
        for thing in (None, {}, [], [(0, 0)], (0, 0), ((0, 0),), "ab", {0: 1}, {(0,): 1}, {(0, 0, 0): 1}, {"ab": 1},
                      {(0, 0): 1, None: 1}, {(0, 0): 1, (0, "1"): 1}, {((0, 0), 0): 1}):
            self.assertEqual(told_error(widest, thing), ("BadTable",), thing)
        for thing in NO_NUMBERS:
            if not isinstance(thing, (list, dict)):
                self.assertEqual(told_error(widest, {(0, thing): 1}), ("BadTable",))
                self.assertEqual(told_error(widest, {(thing, 0): 1}), ("BadTable",))

    def test_nothing_is_changed(self):
        told = {(3, 1): [1], (0, 0): [2]}
        widest(told)
        self.assertEqual(list(told.items()), [((3, 1), [1]), ((0, 0), [2])])


if __name__ == "__main__":
    unittest.main()
