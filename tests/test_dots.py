import unittest

from ringcubes.braids import closed_braid
from ringcubes.dots import dotted, dots_bridge
from ringcubes.drawings import Drawing, ways
from ringcubes.maps import composed, is_bridge, is_map, summed
from tests.samples import (BORROMEAN, HANDS, HOPF, KINK, KINK_BACK, NO_DRAWINGS, NO_NUMBERS, RINGS, SMALL, TREFOIL,
                           TWO_PIECES, fault_of_bridge, fault_of_map, plain_rings, plain_states, same_kinds,
                           told_error)

BIG = closed_braid(2, [1] * 11)


class DottedTest(unittest.TestCase):
    def test_by_hand(self):
        self.assertTrue(same_kinds(dotted(KINK, 0), {((0,), (1, -1)): {((0,), (-1, -1)): 1},
                                                     ((0,), (1, 1)): {((0,), (-1, 1)): 1},
                                                     ((1,), (1,)): {((1,), (-1,)): 1}}))
        self.assertEqual(dotted(Drawing(KINK.crossings, 1), 1),
                         {((0,), (-1, -1, 1)): {((0,), (-1, -1, -1)): 1}, ((0,), (-1, 1, 1)): {((0,), (-1, 1, -1)): 1},
                          ((0,), (1, -1, 1)): {((0,), (1, -1, -1)): 1}, ((0,), (1, 1, 1)): {((0,), (1, 1, -1)): 1},
                          ((1,), (-1, 1)): {((1,), (-1, -1)): 1}, ((1,), (1, 1)): {((1,), (1, -1)): 1}})

    def test_all_states(self):
        for drawing in SMALL:
            for arc in drawing.arcs:
                told = {}
                for choice, marks in plain_states(drawing):
                    at = [arc in ring for ring in plain_rings(drawing, choice)].index(True)
                    if marks[at] == 1:
                        told[(choice, marks)] = {(choice, marks[:at] + (-1,) + marks[at + 1:]): 1}
                self.assertEqual(dotted(drawing, arc), told)

    def test_is_a_map_and_twice_empty(self):
        for drawing in SMALL:
            for arc in drawing.arcs:
                told = dotted(drawing, arc)
                self.assertIsNone(fault_of_map(drawing, drawing, -2, told))
                self.assertIs(is_map(drawing, drawing, -2, told), True)
                self.assertEqual(composed(told, told), {})

    def test_refuses(self):
        for arc in (-1, 6, 99, 100) + NO_NUMBERS:
            self.assertEqual(told_error(dotted, TREFOIL, arc), ("BadArc",), arc)
            self.assertEqual(told_error(dotted, RINGS, arc), ("BadArc",), arc)
        for thing in NO_DRAWINGS:
            self.assertEqual(told_error(dotted, thing, None), ("BadDrawing", None))
        self.assertEqual(told_error(dotted, BIG, 99), ("BadArc",))
        self.assertEqual(told_error(dotted, BIG, 0), ("TooMany", 10))
        dotted(arc=0, drawing=KINK).clear()
        self.assertEqual(len(dotted(KINK, 0)), 3)


class BridgeTest(unittest.TestCase):
    def test_by_hand(self):
        self.assertEqual(dots_bridge(Drawing([(1, 0, 1, 1, 0)], 0), 0, 1)[0], -1)
        sign, thing = dots_bridge(KINK, 0, 0)
        self.assertTrue(same_kinds(sign, 1))
        self.assertIs(is_bridge(KINK, KINK, -2, dotted(KINK, 0), dotted(KINK, 0), thing), True)

    def test_any_two_arcs_of_a_way(self):
        for drawing in SMALL + (HANDS, TWO_PIECES):
            for way in ways(drawing):
                for at, one in enumerate(way):
                    for to, other in enumerate(way):
                        self.check(drawing, one, other, (-1) ** abs(at - to))

    def check(self, drawing, one, other, goal_sign):
        told = dots_bridge(drawing, one, other)
        self.assertIsInstance(told, tuple)
        sign, thing = told
        self.assertTrue(same_kinds(sign, goal_sign))
        first = dotted(drawing, one)
        second = summed({}, dotted(drawing, other), sign)
        self.assertIs(is_bridge(drawing, drawing, -2, first, second, thing), True)

    def test_by_the_words_of_the_document(self):
        for drawing, one, other in ((KINK_BACK, 0, 1), (HOPF, 0, 3), (HOPF, 3, 0), (TREFOIL, 0, 4), (TREFOIL, 5, 4)):
            sign, thing = dots_bridge(drawing, one, other)
            second = summed({}, dotted(drawing, other), sign)
            self.assertIsNone(fault_of_bridge(drawing, drawing, -2, dotted(drawing, one), second, thing))

    def test_at_ten_crossings(self):
        drawing = closed_braid(3, [1, -2, 1, 2, 1, -2, -2, 1, 1, 2])
        way = ways(drawing)[0]
        sign, thing = dots_bridge(drawing, way[3], way[1])
        second = summed({}, dotted(drawing, way[1]), sign)
        self.assertEqual(sign, 1)
        self.assertIs(is_bridge(drawing, drawing, -2, dotted(drawing, way[3]), second, thing), True)

    def test_refuses(self):
        for arc in (-1, 6, 99, 100) + NO_NUMBERS:
            self.assertEqual(told_error(dots_bridge, TREFOIL, arc, 0), ("BadArc",), arc)
            self.assertEqual(told_error(dots_bridge, TREFOIL, 0, arc), ("BadArc",), arc)
        for thing in NO_DRAWINGS:
            self.assertEqual(told_error(dots_bridge, thing, None, None), ("BadDrawing", None))
        self.assertEqual(told_error(dots_bridge, HOPF, 0, 1), ("NotHere",))
        self.assertEqual(told_error(dots_bridge, HOPF, 2, 3), ("NotHere",))
        for one in BORROMEAN.arcs:
            for other in BORROMEAN.arcs:
                same = any(one in way and other in way for way in ways(BORROMEAN))
                self.assertEqual(told_error(dots_bridge, BORROMEAN, one, other), None if same else ("NotHere",))
        two = closed_braid(2, [1] * 12)
        one, other = ways(two)
        self.assertEqual(told_error(dots_bridge, two, one[0], other[0]), ("NotHere",))
        self.assertEqual(told_error(dots_bridge, two, one[0], one[1]), ("TooMany", 10))
        self.assertEqual(told_error(dots_bridge, two, one[0], 99), ("BadArc",))
        self.assertEqual(dots_bridge(other=1, one=0, drawing=KINK), dots_bridge(KINK, 0, 1))

    def test_new_each_time(self):
        told = dots_bridge(TREFOIL, 0, 3)[1]
        for row in told.values():
            row.clear()
        told.clear()
        sign, thing = dots_bridge(TREFOIL, 0, 3)
        self.assertIs(is_bridge(TREFOIL, TREFOIL, -2, dotted(TREFOIL, 0), summed({}, dotted(TREFOIL, 3), sign), thing),
                      True)


if __name__ == "__main__":
    unittest.main()
