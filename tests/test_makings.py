import copy
import itertools
import unittest

from ringcubes.braids import closed_braid
from ringcubes.drawings import Drawing, way_count
from ringcubes.longs import long_rooms, long_whole
from ringcubes.makings import joined_at, mirrored_whole, rooms_product, side_by_side, whole_product
from ringcubes.moves import kinked
from ringcubes.older import older_row
from ringcubes.rooms import rooms, rooms_of, whole_rooms
from ringcubes.views import alike, mirrored
from tests.samples import (EIGHT, HOPF, KINK, KINK_BACK, LEFT, NO_DRAWINGS, NO_NUMBERS, NOTHING, RING, RINGS, SAMPLES,
                           TREFOIL, is_ascending, same_kinds, told_error)
from tests.test_rooms import NO_WHOLES

PAIRS = ((TREFOIL, LEFT), (TREFOIL, TREFOIL), (HOPF, KINK_BACK), (EIGHT, TREFOIL), (KINK, HOPF), (KINK_BACK, KINK_BACK),
         (closed_braid(3, [1, 2, 1]), HOPF))
NO_ROOMS = (None, True, 3, "", "ab", (), [], [((0, 0), 1)], {0: 1}, {(0,): 1}, {(0, 0, 0): 1}, {(0, True): 1},
            {(False, 0): 1}, {("0", 0): 1}, {(0, 0.0): 1}, {"00": 1}, {(0, 0): 0}, {(0, 0): -1}, {(0, 0): True},
            {(0, 0): 1.0}, {(0, 0): "1"}, {(0, 0): None}, {(0, 0): (1, ())}, {(0, 0): 1, (0, 1): 0})
TWENTY = closed_braid(2, [1] * 20)


class SideBySideTest(unittest.TestCase):
    def test_names_of_arcs(self):
        told = side_by_side(HOPF, HOPF)
        self.assertTrue(same_kinds(told.crossings, HOPF.crossings + ((1, 5, 6, 4, 7), (1, 7, 4, 6, 5))))
        one = Drawing([(1, 0, 5, 5, 0)], 1)
        other = Drawing([(1, 5, 1, 1, 5), (-1, 0, 3, 3, 0)], 2)
        # 0 and 5 are arcs of both: ascending they become 2 and 4, which neither has.
        self.assertEqual(side_by_side(one, other), Drawing([(1, 0, 5, 5, 0), (1, 4, 1, 1, 4), (-1, 2, 3, 3, 2)], 3))
        apart = Drawing([(-1, 98, 99, 99, 98)], 0)
        self.assertEqual(side_by_side(KINK, apart), Drawing(KINK.crossings + apart.crossings, 0))
        self.assertEqual(side_by_side(apart, KINK), Drawing(apart.crossings + KINK.crossings, 0))

    def test_nothing_and_rings(self):
        for drawing in SAMPLES:
            self.assertEqual(side_by_side(drawing, NOTHING), drawing)
            self.assertEqual(side_by_side(NOTHING, drawing), drawing)
            self.assertEqual(side_by_side(drawing, RING), Drawing(drawing.crossings, drawing.rings + 1))
        self.assertEqual(side_by_side(Drawing([], 3), Drawing([], 5)), Drawing([], 8))

    def test_limits(self):
        ten = closed_braid(2, [1] * 10)
        self.assertEqual(len(side_by_side(ten, ten).crossings), 20)
        eleven = closed_braid(2, [1] * 11)
        self.assertEqual(told_error(side_by_side, ten, eleven), ("TooMany", 20))
        self.assertEqual(told_error(side_by_side, TWENTY, KINK), ("TooMany", 20))
        self.assertEqual(told_error(side_by_side, Drawing([], 4), Drawing([], 5)), ("TooMany", 8))
        self.assertEqual(told_error(side_by_side, Drawing(TWENTY.crossings, 4), Drawing(KINK.crossings, 5)),
                         ("TooMany", 20))
        for thing in NO_DRAWINGS:
            self.assertEqual(told_error(side_by_side, thing, KINK), ("BadDrawing", None))
            self.assertEqual(told_error(side_by_side, KINK, thing), ("BadDrawing", None))
        self.assertEqual(side_by_side(other=KINK, one=RING), KINK_BESIDE)

    def test_rooms(self):
        for one, other in PAIRS + ((RING, RINGS), (NOTHING, TREFOIL), (RINGS, TREFOIL)):
            told = side_by_side(one, other)
            for prime in (2, 3):
                self.assertEqual(rooms(prime, told), rooms_product(rooms(prime, one), rooms(prime, other)))
            self.assertEqual(whole_rooms(told), whole_product(whole_rooms(one), whole_rooms(other)))


KINK_BESIDE = Drawing(KINK.crossings, 1)


class ProductTest(unittest.TestCase):
    def test_rooms_by_hand(self):
        ring = {(0, -1): 1, (0, 1): 1}
        self.assertEqual(rooms(3, RING), ring)
        self.assertTrue(same_kinds(rooms_product(ring, ring), {(0, -2): 1, (0, 0): 2, (0, 2): 1}))
        self.assertTrue(same_kinds(rooms_product({(3, 1): 2, (-1, 0): 5}, {(0, 7): 3, (-4, 8): 1}),
                                   {(-5, 8): 5, (-1, 7): 15, (-1, 9): 2, (3, 8): 6}))
        self.assertTrue(same_kinds(rooms_product({}, ring), {}))
        self.assertEqual(rooms_product(ring, {}), {})
        self.assertEqual(rooms_product(second=ring, first={(0, 0): 10 ** 30}), {(0, -1): 10 ** 30, (0, 1): 10 ** 30})

    def test_rooms_wrong_tables(self):
        for thing in NO_ROOMS:
            self.assertEqual(told_error(rooms_product, thing, {}), ("BadTable",), thing)
            self.assertEqual(told_error(rooms_product, {}, thing), ("BadTable",), thing)

    def test_whole_by_hand(self):
        for first, second, told in (
                ({(0, 0): (1, (2,))}, {(0, 0): (1, (4,))}, {(-1, 0): (0, (2,)), (0, 0): (1, (2, 2, 4))}),
                ({}, {(0, 0): (1, ())}, {}), ({(0, 0): (0, ())}, {(0, 0): (1, (4,))}, {}),
                ({(0, 0): (1, ())}, {(2, 5): (3, (2, 6))}, {(2, 5): (3, (2, 6))}),
                ({(0, 0): (2, ())}, {(2, 5): (3, (2, 6))}, {(2, 5): (6, (2, 2, 6, 6))}),
                ({(1, 1): (0, (2,))}, {(1, -1): (0, (3,))}, {}),
                ({(1, 1): (1, (2,))}, {(1, -1): (1, (3,))}, {(2, 0): (1, (6,))}),
                ({(1, 1): (0, (4,))}, {(1, -1): (0, (6,))}, {(1, 0): (0, (2,)), (2, 0): (0, (2,))}),
                ({(0, 0): (1, ()), (1, 0): (0, (2,))}, {(0, 0): (0, (4,)), (1, 0): (1, ())},
                 {(0, 0): (0, (2, 4)), (1, 0): (1, (2,)), (2, 0): (0, (2,))}),
                ({(0, 0): (0, (2, 4))}, {(0, 0): (0, (2, 4))}, {(-1, 0): (0, (2, 2, 2, 4)), (0, 0): (0, (2, 2, 2, 4))}),
                ({(0, 0): (0, (6,)), (0, 2): (0, (10,))}, {(0, 0): (2, ()), (0, -2): (0, (15,))},
                 {(-1, -2): (0, (3,)), (-1, 0): (0, (5,)), (0, -2): (0, (3,)), (0, 0): (0, (6, 30)),
                  (0, 2): (0, (10, 10))})):
            self.assertTrue(same_kinds(whole_product(first, second), told), whole_product(first, second))
            self.assertEqual(whole_product(second=first, first=second), told)

    def test_whole_is_as_told_over_primes(self):
        found = [{(0, 0): (1, (2, 6))}, {(0, 0): (2, (3,)), (1, 0): (1, (4, 12)), (-1, 3): (0, (9,))},
                 {(2, 1): (0, (5, 10)), (3, 1): (3, ())}, whole_rooms(TREFOIL), whole_rooms(LEFT)]
        for first, second in itertools.product(found, repeat=2):
            told = whole_product(first, second)
            self.assertTrue(is_ascending(told))
            for prime in (2, 3, 5, 7):
                self.assertEqual(rooms_of(prime, told), rooms_product(rooms_of(prime, first), rooms_of(prime, second)))

    def test_whole_wrong_tables(self):
        for thing in NO_WHOLES:
            self.assertEqual(told_error(whole_product, thing, {}), ("BadTable",), thing)
            self.assertEqual(told_error(whole_product, {}, thing), ("BadTable",), thing)

    def test_nothing_is_changed(self):
        first, second = {(0, 0): (1, (2,)), (-1, 0): (1, ())}, {(0, 0): (1, (4,))}
        kept = copy.deepcopy((first, second))
        whole_product(first, second).clear()
        mirrored_whole(first).clear()
        self.assertEqual((first, second), kept)
        self.assertEqual(list(first), [(0, 0), (-1, 0)])


class JoinedTest(unittest.TestCase):
    def test_by_hand(self):
        told = joined_at(HOPF, 3, KINK, 1)
        # Beside HOPF the arcs 0 and 1 of the kink are 4 and 5: arc 3 goes into its over_in, 5 where 3 went.
        self.assertEqual(told, Drawing([(1, 1, 2, 0, 3), (1, 5, 0, 2, 1), (1, 4, 5, 3, 4)], 0))
        rows = [(1, 9, 8, 8, 9)]
        self.assertEqual(joined_at(Drawing(rows, 1), 8, KINK, 0), Drawing([(1, 9, 8, 0, 9), (1, 8, 1, 1, 0)], 1))

    def test_a_kink_joined_is_a_first_move(self):
        for drawing in (KINK, HOPF, TREFOIL, EIGHT, KINK_BACK):
            for arc in drawing.arcs:
                goals = [kinked(drawing, arc, 1, over) for over in (0, 1)]
                for mate in KINK.arcs:
                    for told in (joined_at(drawing, arc, closed_braid(2, [1]), mate), joined_at(KINK, mate, drawing, arc)):
                        self.assertTrue(any(alike(told, goal) for goal in goals))

    def test_facts(self):
        for one, other in PAIRS:
            for arc in one.arcs[::3]:
                for mate in other.arcs[::2]:
                    told = joined_at(one, arc, other, mate)
                    both = side_by_side(one, other)
                    self.assertEqual(way_count(told), way_count(both) - 1)
                    self.assertEqual((told.plus, told.minus, told.rings), (both.plus, both.minus, both.rings))
                    more = side_by_side(told, RING)
                    self.assertEqual(older_row(more), older_row(both))
                    self.assertEqual(rooms(2, more), rooms(2, both))

    def test_long_rooms(self):
        for one, other in PAIRS:
            for arc in one.arcs[::4]:
                for mate in other.arcs[::3]:
                    told = joined_at(one, arc, other, mate)
                    for prime in (2, 3):
                        self.assertEqual(long_rooms(prime, told, arc), rooms_product(long_rooms(prime, one, arc),
                                                                                    long_rooms(prime, other, mate)))
                    self.assertEqual(long_whole(told, arc),
                                     whole_product(long_whole(one, arc), long_whole(other, mate)))

    def test_refuses(self):
        for thing in NO_DRAWINGS:
            self.assertEqual(told_error(joined_at, thing, None, KINK, None), ("BadDrawing", None))
            self.assertEqual(told_error(joined_at, KINK, None, thing, None), ("BadDrawing", None))
        for arc in (-1, 6, 99, 100) + NO_NUMBERS:
            self.assertEqual(told_error(joined_at, TREFOIL, arc, HOPF, 0), ("BadArc",), arc)
            self.assertEqual(told_error(joined_at, HOPF, 0, TREFOIL, arc), ("BadArc",), arc)
            self.assertEqual(told_error(joined_at, TWENTY, 0, KINK, arc), ("BadArc",), arc)
        self.assertEqual(told_error(joined_at, TWENTY, 0, RING, 0), ("BadArc",))
        self.assertEqual(told_error(joined_at, TREFOIL, 0, HOPF, 4), ("BadArc",))
        self.assertEqual(told_error(joined_at, TWENTY, 0, KINK, 0), ("TooMany", 20))
        full = Drawing(KINK.crossings, 5)
        self.assertEqual(told_error(joined_at, full, 0, full, 0), ("TooMany", 8))
        self.assertEqual(told_error(joined_at, full, 0, Drawing(TWENTY.crossings, 5), 0), ("TooMany", 20))
        self.assertEqual(joined_at(full, 0, Drawing(KINK.crossings, 3), 0).rings, 8)
        ten = closed_braid(2, [1] * 10)
        self.assertEqual(len(joined_at(ten, 0, ten, 0).crossings), 20)
        self.assertEqual(joined_at(mate=0, other=KINK, arc=1, one=HOPF), joined_at(HOPF, 1, KINK, 0))


class MirroredTest(unittest.TestCase):
    def test_by_hand(self):
        told = mirrored_whole(whole_rooms(closed_braid(2, [1, 1, 1])))
        self.assertEqual(told[(-2, -7)], (0, (2,)))
        for whole, goal in (
                ({}, {}), ({(0, 0): (0, ())}, {}), ({(1, 2): (3, ())}, {(-1, -2): (3, ())}),
                ({(1, 2): (0, (2, 4))}, {(0, -2): (0, (2, 4))}),
                ({(1, 2): (3, (5,))}, {(-1, -2): (3, ()), (0, -2): (0, (5,))}),
                ({(1, 2): (3, (5,)), (0, 2): (1, (7,))}, {(-1, -2): (3, ()), (0, -2): (1, (5,)), (1, -2): (0, (7,))})):
            self.assertTrue(same_kinds(mirrored_whole(whole), goal), mirrored_whole(whole))
            kept = {spot: part for spot, part in whole.items() if part != (0, ())}
            self.assertEqual(mirrored_whole(mirrored_whole(whole)), kept)

    def test_of_drawings(self):
        for drawing in SAMPLES:
            self.assertEqual(whole_rooms(mirrored(drawing)), mirrored_whole(whole_rooms(drawing)))

    def test_wrong_tables(self):
        for thing in NO_WHOLES:
            self.assertEqual(told_error(mirrored_whole, thing), ("BadTable",), thing)
        self.assertEqual(mirrored_whole(whole={(0, 1): (1, ())}), {(0, -1): (1, ())})


if __name__ == "__main__":
    unittest.main()
