import copy
import unittest

from ringcubes.braids import closed_braid
from ringcubes.drawings import Drawing, linking, pieces, way_count, ways
from tests.samples import (BORROMEAN, EIGHT, HANDS, HOPF, KINK, KINK_BACK, LEFT, NO_DRAWINGS, NO_NUMBERS, NOTHING,
                           RING, RINGS, SAMPLES, TREFOIL, TWO_PIECES, same_kinds, told_error)

ROW = (1, 0, 1, 1, 0)


class DrawingTest(unittest.TestCase):
    def wrong(self, crossings, rings=0):
        told = told_error(Drawing, crossings, rings)
        return told and told[1]

    def test_crossings_must_be_a_list_of_crossings(self):
        for thing in (None, 3, True, "", "abc", {}, {ROW: 1}, {ROW}, ROW, [None], [[*ROW]], [()], ["12345"],
                      [ROW[:4]], [ROW + (0,)], [(1, 0, 1, 1)], [ROW, None], iter([ROW])):
            self.assertEqual(told_error(Drawing, thing, 0), ("BadDrawing", "crossings"), thing)

    def test_signs(self):
        for sign in (0, 2, -2) + NO_NUMBERS:
            self.assertEqual(self.wrong([(sign, 0, 1, 1, 0)]), "crossings", sign)
        for sign in (1, -1):
            self.assertEqual(Drawing([(sign, 0, 1, 1, 0)], 0).crossings, ((sign, 0, 1, 1, 0),))

    def test_arcs_are_numbers_from_0_to_99(self):
        for arc in (-1, 100, 1000) + NO_NUMBERS:
            for row in ((1, 0, arc, arc, 0), (1, arc, 1, 1, arc), (1, arc, 1, 1, 0), (1, 0, arc, 1, 0),
                        (1, 0, 1, arc, 0), (1, 0, 1, 1, arc)):
                self.assertEqual(self.wrong([row]), "crossings", row)
        self.assertEqual(Drawing([(1, 0, 99, 99, 0)], 0).arcs, (0, 99))

    def test_at_most_20_crossings(self):
        rows = [(1, 2 * k, 2 * k + 1, 2 * k + 1, 2 * k) for k in range(21)]
        self.assertEqual(len(Drawing(rows[:20], 0).crossings), 20)
        self.assertEqual(self.wrong(rows), "crossings")
        self.assertEqual(self.wrong(tuple(rows)), "crossings")

    def test_rings_from_0_to_8(self):
        for rings in range(9):
            self.assertEqual(Drawing([], rings).rings, rings)
        for rings in (-1, 9, 100) + NO_NUMBERS:
            self.assertEqual(self.wrong([], rings), "rings", rings)
            self.assertEqual(self.wrong([ROW], rings), "rings", rings)

    def test_each_arc_goes_out_once_and_in_once(self):
        for rows in ([(1, 0, 1, 2, 3)], [(1, 0, 1, 0, 1)], [(1, 0, 0, 0, 0)], [(1, 0, 1, 1, 1)], [(1, 0, 1, 0, 0)],
                     [(1, 0, 1, 1, 2)], [(1, 0, 1, 2, 0)], [ROW, ROW], [(1, 1, 0, 1, 0)],
                     [(1, 1, 2, 0, 3), (1, 3, 0, 2, 0)], [(1, 1, 2, 0, 3), (1, 3, 0, 1, 1)]):
            self.assertEqual(self.wrong(rows), "arcs", rows)

    def test_must_be_in_the_plane(self):
        virtual = [(1, 0, 0, 1, 1)]
        turned = [(-1,) + TREFOIL.crossings[0][1:]] + list(TREFOIL.crossings[1:])
        swapped = [(1, 1, 2, 0, 3), (1, 2, 1, 3, 0)]
        for rows in (virtual, turned, swapped, [ROW, (1, 2, 2, 3, 3)], [(1, 2, 2, 3, 3), ROW]):
            self.assertEqual(self.wrong(rows), "plane", rows)
        for drawing in (TREFOIL, EIGHT, BORROMEAN):
            for at, row in enumerate(drawing.crossings):
                rows = list(drawing.crossings)
                rows[at] = (-row[0],) + row[1:]
                self.assertEqual(self.wrong(rows), "plane")

    def test_the_first_wrong_part_is_told(self):
        self.assertEqual(self.wrong([None], 9), "crossings")
        self.assertEqual(self.wrong([(1, 0, 1, 2, 3)], 9), "rings")
        self.assertEqual(self.wrong([(1, 0, 0, 1, 1)], 9), "rings")
        self.assertEqual(self.wrong([(1, 0, 0, 1, 1), (1, 2, 3, 4, 5)]), "arcs")
        self.assertEqual(self.wrong([(1, 0, 1, 2, 100)], None), "crossings")

    def test_attributes(self):
        rows = [(1, 1, 2, 0, 3), (1, 3, 0, 2, 1), (-1, 90, 91, 91, 90)]
        drawing = Drawing(rows, 2)
        self.assertTrue(same_kinds(drawing.crossings, tuple(rows)))
        self.assertTrue(same_kinds(drawing.arcs, (0, 1, 2, 3, 90, 91)))
        self.assertTrue(same_kinds([drawing.rings, drawing.plus, drawing.minus], [2, 2, 1]))
        self.assertEqual((NOTHING.crossings, NOTHING.rings, NOTHING.arcs, NOTHING.plus, NOTHING.minus),
                         ((), 0, (), 0, 0))
        self.assertEqual((LEFT.plus, LEFT.minus), (0, 3))

    def test_lists_and_tuples_and_names(self):
        rows = list(TREFOIL.crossings)
        kept = copy.deepcopy(rows)
        drawing = Drawing(rings=0, crossings=rows)
        self.assertEqual(drawing, Drawing(tuple(rows), 0))
        rows.append(None)
        self.assertEqual(drawing.crossings, tuple(kept))

    def test_equality(self):
        self.assertEqual(TREFOIL, closed_braid(2, [1, 1, 1]))
        rows = TREFOIL.crossings
        for other in (Drawing(rows, 1), Drawing(rows[1:] + rows[:1], 0), LEFT, NOTHING, HOPF):
            self.assertFalse(TREFOIL == other)
            self.assertTrue(TREFOIL != other)
        for thing in NO_DRAWINGS + (rows, (rows, 0), [rows, 0]):
            self.assertFalse(TREFOIL == thing)
            self.assertFalse(NOTHING == thing)
        self.assertFalse(KINK == Drawing([(1, 1, 0, 0, 1)], 0))
        self.assertFalse(KINK == Drawing([(-1, 0, 1, 1, 0)], 0))


class WaysTest(unittest.TestCase):
    def test_ways_by_hand(self):
        for drawing, told in ((NOTHING, []), (RINGS, []), (KINK, [(0, 1)]), (HOPF, [(0, 3), (1, 2)]),
                              (TREFOIL, [(0, 3, 4, 1, 2, 5)]), (KINK_BACK, [(0, 1)]),
                              (Drawing([(1, 7, 4, 4, 7), (1, 1, 2, 0, 3), (1, 3, 0, 2, 1)], 1),
                               [(0, 3), (1, 2), (4, 7)])):
            self.assertTrue(same_kinds(ways(drawing), told), told)

    def test_ways_follow_the_strand(self):
        for drawing in SAMPLES:
            rows = ways(drawing)
            self.assertEqual(rows, sorted(rows))
            self.assertEqual(tuple(sorted(arc for way in rows for arc in way)), drawing.arcs)
            goes_on = {}
            for _, under_in, under_out, over_in, over_out in drawing.crossings:
                goes_on[under_in] = under_out
                goes_on[over_in] = over_out
            for way in rows:
                self.assertEqual(way[0], min(way))
                for arc, follower in zip(way, way[1:] + way[:1]):
                    self.assertEqual(goes_on[arc], follower)

    def test_way_count(self):
        for drawing, many in ((NOTHING, 0), (RING, 1), (RINGS, 3), (KINK, 1), (KINK_BACK, 2), (HOPF, 2),
                              (TREFOIL, 1), (BORROMEAN, 3), (Drawing(HOPF.crossings, 8), 10)):
            self.assertTrue(same_kinds(way_count(drawing), many))

    def test_new_lists(self):
        for call in (ways, pieces):
            call(TREFOIL).append(None)
            self.assertNotIn(None, call(TREFOIL))

    def test_linking(self):
        self.assertTrue(same_kinds(linking(HOPF, 0, 1), 1))
        self.assertEqual(linking(HOPF, 1, 0), 1)
        self.assertEqual(linking(closed_braid(2, [-1] * 4), 0, 1), -2)
        self.assertEqual(linking(closed_braid(2, [1] * 20), 0, 1), 10)
        self.assertEqual(linking(closed_braid(2, [1, -1]), 0, 1), 0)
        self.assertEqual([linking(BORROMEAN, one, other) for one in range(3) for other in range(3) if one != other],
                         [0] * 6)
        ring = [linking(HANDS, one, other) for one, other in ((0, 1), (0, 2), (1, 2))]
        self.assertEqual(sorted(ring), [0, 1, 1])
        both = Drawing(HOPF.crossings + ((-1, 11, 12, 10, 13), (-1, 13, 10, 12, 11)), 0)
        self.assertEqual(told_error(linking, both, 0, 4), ("BadWay",))

    def test_linking_counts_crossings_of_two_ways_alone(self):
        drawing = closed_braid(3, [1, 1, 1, 1, 2])
        self.assertEqual(sorted(len(way) for way in ways(drawing)), [4, 6])
        self.assertEqual(linking(drawing, 0, 1), 2)

    def test_linking_by_the_words_of_the_document(self):
        met = set()
        for drawing in SAMPLES + (closed_braid(3, [1, 1, 1, 1, 2]), closed_braid(3, [1, 1, 2, 2, 2]), HANDS,
                                  closed_braid(4, [1, 1, -2, -2, 3, 3, 3, 3, 1, -1])):
            rows = ways(drawing)
            for one in range(len(rows)):
                for other in range(len(rows)):
                    if one != other:
                        signs = [sign for sign, under, _, over, _ in drawing.crossings
                                 if under in rows[one] and over in rows[other] or under in rows[other] and over in rows[one]]
                        self.assertEqual(2 * linking(drawing, one, other), sum(signs))
                        met.add(sum(signs))
        self.assertGreater(len(met), 3)

    def test_linking_wrong_indexes(self):
        for one, other in ((0, 0), (0, 2), (2, 0), (-1, 0), (0, -1), (1, 1)):
            self.assertEqual(told_error(linking, HOPF, one, other), ("BadWay",))
        for thing in NO_NUMBERS:
            self.assertEqual(told_error(linking, HOPF, thing, 1), ("BadWay",), thing)
            self.assertEqual(told_error(linking, HOPF, 0, thing), ("BadWay",), thing)
        self.assertEqual(told_error(linking, RINGS, 0, 1), ("BadWay",))
        self.assertEqual(told_error(linking, TREFOIL, 0, 1), ("BadWay",))
        self.assertEqual(linking(other=1, one=0, drawing=HOPF), 1)

    def test_pieces(self):
        self.assertEqual(pieces(NOTHING), [])
        self.assertEqual(pieces(RINGS), [])
        self.assertTrue(same_kinds(pieces(TREFOIL), [(0, 1, 2)]))
        self.assertEqual(pieces(TWO_PIECES), [(0, 1), (2, 3, 4)])
        mixed = Drawing([HOPF.crossings[0], (1, 9, 8, 8, 9), HOPF.crossings[1]], 0)
        self.assertTrue(same_kinds(pieces(mixed), [(0, 2), (1,)]))
        self.assertEqual(pieces(closed_braid(8, [1, 3, 5, 7, 1])), [(0, 4), (1,), (2,), (3,)])

    def test_no_drawing(self):
        for thing in NO_DRAWINGS:
            for call, rest in ((ways, ()), (way_count, ()), (pieces, ()), (linking, (None, None))):
                self.assertEqual(told_error(call, thing, *rest), ("BadDrawing", None))


if __name__ == "__main__":
    unittest.main()
