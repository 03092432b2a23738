import copy
import random
import unittest

from ringcubes.braids import closed_braid
from ringcubes.drawings import Drawing
from ringcubes.rooms import rooms, rooms_of, whole_rooms
from ringcubes.views import in_order, mirrored, turned_about
from tests.samples import (BORROMEAN, EIGHT, HOPF, KINK, KINK_BACK, LEFT, NO_DRAWINGS, NO_NUMBERS, NOTHING, RING, RINGS,
                           SAMPLES, SMALL, TREFOIL, by_spots, is_ascending, plain_rooms, plain_rows, same_kinds,
                           told_error)
from tests.test_spans import minors_chain
from tests.test_views import shuffled

NO_PRIMES = (-2, -1, 0, 1, 4, 9, 25, 49, 91, 95, 98, 99, 100, 101, 103) + NO_NUMBERS
PRIMES = (2, 3, 5, 7, 11, 13, 17, 19, 23, 29, 31, 37, 41, 43, 47, 53, 59, 61, 67, 71, 73, 79, 83, 89, 97)
NO_WHOLES = (None, True, 3, "", "ab", (), [], [((0, 0), (1, ()))], {0: (1, ())}, {(0,): (1, ())}, {(0, 0, 0): (1, ())},
             {(0, True): (1, ())}, {(False, 0): (1, ())}, {("0", 0): (1, ())}, {(0, 0.0): (1, ())}, {"00": (1, ())},
             {(0, 0): 1}, {(0, 0): None}, {(0, 0): ()}, {(0, 0): (1,)}, {(0, 0): (1, (), ())}, {(0, 0): [1, ()]},
             {(0, 0): (-1, ())}, {(0, 0): (True, ())}, {(0, 0): ("1", ())}, {(0, 0): (1, [])}, {(0, 0): (1, [2])},
             {(0, 0): (1, 2)}, {(0, 0): (1, None)}, {(0, 0): (1, (1,))}, {(0, 0): (1, (0,))}, {(0, 0): (1, (-2,))},
             {(0, 0): (1, (2, 3))}, {(0, 0): (1, (4, 2))}, {(0, 0): (1, (2, 4, 6))}, {(0, 0): (1, (True,))},
             {(0, 0): (1, ("2",))}, {(0, 0): (1, (2.0,))}, {(0, 0): (1, ()), (0, 1): (1, (1, 2))})
TREFOIL_WHOLE = {(0, 1): (1, ()), (0, 3): (1, ()), (2, 5): (1, ()), (3, 7): (0, (2,)), (3, 9): (1, ())}
BIG = closed_braid(2, [1] * 11)


class RoomsTest(unittest.TestCase):
    def test_by_hand(self):
        two = {(0, 1): 1, (0, 3): 1, (2, 5): 1, (2, 7): 1, (3, 7): 1, (3, 9): 1}
        three = {(0, 1): 1, (0, 3): 1, (2, 5): 1, (3, 9): 1}
        self.assertTrue(same_kinds(rooms(2, TREFOIL), two))
        for prime in (3, 5, 97):
            self.assertTrue(same_kinds(rooms(prime, TREFOIL), three))
        self.assertTrue(same_kinds(rooms(3, LEFT), {(-3, -9): 1, (-2, -5): 1, (0, -3): 1, (0, -1): 1}))
        self.assertEqual(rooms(2, KINK), {(0, -1): 1, (0, 1): 1})
        self.assertEqual(rooms(5, HOPF), {(0, 0): 1, (0, 2): 1, (2, 4): 1, (2, 6): 1})
        self.assertEqual(rooms(3, EIGHT), {(-2, -5): 1, (-1, -1): 1, (0, -1): 1, (0, 1): 1, (1, 1): 1, (2, 5): 1})

    def test_rings_alone(self):
        for prime in (2, 3, 97):
            self.assertTrue(same_kinds(rooms(prime, NOTHING), {(0, 0): 1}))
            self.assertEqual(rooms(prime, RING), {(0, -1): 1, (0, 1): 1})
            self.assertEqual(rooms(prime, RINGS), {(0, -3): 1, (0, -1): 3, (0, 1): 3, (0, 3): 1})
        self.assertEqual(rooms(2, Drawing([], 8))[(0, 0)], 70)
        self.assertTrue(same_kinds(whole_rooms(NOTHING), {(0, 0): (1, ())}))
        self.assertEqual(whole_rooms(RINGS), {(0, -3): (1, ()), (0, -1): (3, ()), (0, 1): (3, ()), (0, 3): (1, ())})

    def test_by_dense_rows(self):
        for drawing in SMALL + (closed_braid(3, [1, 2, 1, 2, 1]), closed_braid(3, [1, 1, -2, -2])):
            for prime in (2, 3, 97):
                told = rooms(prime, drawing)
                self.assertTrue(same_kinds(told, plain_rooms(prime, drawing)), told)
                self.assertTrue(is_ascending(told))

    def test_every_prime_is_let_and_nothing_else(self):
        for prime in PRIMES:
            self.assertEqual(sum(rooms(prime, KINK).values()), 2)
        for thing in NO_PRIMES:
            self.assertEqual(told_error(rooms, thing, KINK), ("BadPrime",), thing)
            self.assertEqual(told_error(rooms, thing, BIG), ("BadPrime",), thing)

    def test_sequence_of_errors(self):
        for thing in NO_DRAWINGS:
            self.assertEqual(told_error(rooms, 4, thing), ("BadDrawing", None))
            self.assertEqual(told_error(rooms, 2, thing), ("BadDrawing", None))
            self.assertEqual(told_error(whole_rooms, thing), ("BadDrawing", None))
        self.assertEqual(told_error(rooms, 2, BIG), ("TooMany", 10))
        self.assertEqual(told_error(whole_rooms, BIG), ("TooMany", 10))

    def test_names_and_new_dicts(self):
        rooms(drawing=TREFOIL, prime=2).clear()
        whole_rooms(drawing=TREFOIL).clear()
        self.assertEqual(len(rooms(2, TREFOIL)), 6)
        self.assertEqual(len(whole_rooms(TREFOIL)), 5)


class WholeRoomsTest(unittest.TestCase):
    def test_by_hand(self):
        self.assertTrue(same_kinds(whole_rooms(TREFOIL), TREFOIL_WHOLE))
        self.assertTrue(same_kinds(whole_rooms(LEFT), {(-3, -9): (1, ()), (-2, -7): (0, (2,)), (-2, -5): (1, ()),
                                                       (0, -3): (1, ()), (0, -1): (1, ())}))
        self.assertEqual(whole_rooms(HOPF), {(0, 0): (1, ()), (0, 2): (1, ()), (2, 4): (1, ()), (2, 6): (1, ())})
        # The first string by braids whose rooms are not on two slanted lines alone.
        self.assertEqual(whole_rooms(closed_braid(3, [1, 2] * 4)),
                         {(0, 5): (1, ()), (0, 7): (1, ()), (2, 9): (1, ()), (3, 11): (0, (2,)), (3, 13): (1, ()),
                          (4, 11): (1, ()), (4, 13): (1, ()), (5, 15): (1, ()), (5, 17): (1, ())})

    def test_by_minors(self):
        for drawing in (NOTHING, RINGS, KINK, KINK_BACK, HOPF, TREFOIL, LEFT, closed_braid(2, [1, -1])):
            spots = by_spots(drawing)
            found = {}
            for spot in sorted(spots):
                rows = plain_rows(drawing, spots, spot)
                below = plain_rows(drawing, spots, (spot[0] - 1, spot[1]))
                chain = minors_chain(rows) if rows and rows[0] else []
                chain_below = minors_chain(below) if below and below[0] else []
                part = (len(spots[spot]) - len(chain) - len(chain_below),
                        tuple(number for number in chain_below if number > 1))
                if part != (0, ()):
                    found[spot] = part
            self.assertTrue(same_kinds(whole_rooms(drawing), found))

    def test_rooms_of_them_are_rooms(self):
        for drawing in SAMPLES + (closed_braid(3, [1, 1, -2, 1, 1, -2, -2]), closed_braid(2, [1] * 10)):
            whole = whole_rooms(drawing)
            self.assertTrue(is_ascending(whole))
            for prime in (2, 3, 97):
                self.assertTrue(same_kinds(rooms_of(prime, whole), rooms(prime, drawing)))

    def test_what_changes_no_rooms(self):
        for drawing in (HOPF, TREFOIL, EIGHT, BORROMEAN, KINK_BACK, closed_braid(4, [1, -2, 3, -1])):
            whole = whole_rooms(drawing)
            order = list(range(len(drawing.crossings)))
            random.Random(3).shuffle(order)
            for told in (turned_about(drawing), in_order(drawing, order), in_order(drawing, order[::-1]),
                         shuffled(drawing, 1), shuffled(drawing, 2)):
                self.assertEqual(whole_rooms(told), whole)
                self.assertEqual(rooms(3, told), rooms(3, drawing))

    def test_mirrored_turns_rooms(self):
        for drawing in SAMPLES:
            for prime in (2, 3):
                told = rooms(prime, mirrored(drawing))
                self.assertEqual(told, {(-i, -j): many for (i, j), many in rooms(prime, drawing).items()})


class RoomsOfTest(unittest.TestCase):
    def test_by_hand(self):
        self.assertTrue(same_kinds(rooms_of(2, TREFOIL_WHOLE), {(0, 1): 1, (0, 3): 1, (2, 5): 1, (2, 7): 1, (3, 7): 1,
                                                                (3, 9): 1}))
        self.assertEqual(rooms_of(3, TREFOIL_WHOLE), {(0, 1): 1, (0, 3): 1, (2, 5): 1, (3, 9): 1})
        told = {(1, 5): (2, (2, 6, 12)), (0, 5): (1, (3,)), (2, 4): (0, ()), (-1, 0): (0, (97,))}
        self.assertTrue(same_kinds(rooms_of(2, told), {(0, 5): 4, (1, 5): 5}))
        self.assertTrue(same_kinds(rooms_of(3, told), {(-1, 5): 1, (0, 5): 4, (1, 5): 4}))
        self.assertEqual(rooms_of(5, told), {(0, 5): 1, (1, 5): 2})
        self.assertEqual(rooms_of(97, told), {(-2, 0): 1, (-1, 0): 1, (0, 5): 1, (1, 5): 2})
        self.assertTrue(is_ascending(rooms_of(97, told)))

    def test_nothing_is_let(self):
        self.assertTrue(same_kinds(rooms_of(2, {}), {}))
        self.assertEqual(rooms_of(2, {(0, 0): (0, ())}), {})
        self.assertEqual(rooms_of(2, {(5, -3): (0, (9,)), (0, 0): (0, ())}), {})
        self.assertEqual(rooms_of(7, {(-5, 10 ** 20): (3, (7, 7 * 10 ** 30))}), {(-6, 10 ** 20): 2, (-5, 10 ** 20): 5})

    def test_wrong_tables(self):
        for thing in NO_WHOLES:
            self.assertEqual(told_error(rooms_of, 2, thing), ("BadTable",), thing)
        for thing in NO_PRIMES:
            self.assertEqual(told_error(rooms_of, thing, None), ("BadPrime",), thing)
            self.assertEqual(told_error(rooms_of, thing, {}), ("BadPrime",), thing)

    def test_nothing_is_changed(self):
        whole = copy.deepcopy(TREFOIL_WHOLE)
        told = rooms_of(whole=whole, prime=2)
        told.clear()
        self.assertEqual(whole, TREFOIL_WHOLE)
        self.assertEqual(len(rooms_of(2, whole)), 6)


if __name__ == "__main__":
    unittest.main()
