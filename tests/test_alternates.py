import unittest

from ringcubes.alternates import alternated, idle_crossings, is_alternate
from ringcubes.braids import closed_braid
from ringcubes.drawings import Drawing, pieces
from ringcubes.faces import faces, shades
from ringcubes.makings import side_by_side
from ringcubes.moves import kinked, laid_over
from ringcubes.partings import exchanged
from ringcubes.views import in_order, mirrored, turned_about, way_turned
from tests.samples import (BORROMEAN, EIGHT, HANDS, HOPF, KINK, KINK_BACK, LEFT, LOOSE, NO_DRAWINGS, NO_NUMBERS,
                           NOT_BY_TURNS, NOTHING, RINGS, SAMPLES, TREFOIL, TWO_PIECES, same_kinds, told_error)
from tests.walks import walk

ALTERNATE = (NOTHING, RINGS, KINK, KINK_BACK, HOPF, TREFOIL, LEFT, EIGHT, BORROMEAN, way_turned(BORROMEAN, 1),
             side_by_side(TREFOIL, Drawing(LEFT.crossings, 2)), closed_braid(4, [1, -2, 3, -2]),
             closed_braid(2, [1] * 20))
OTHERS = (LOOSE, NOT_BY_TURNS, HANDS, TWO_PIECES, exchanged(EIGHT, 2), side_by_side(HOPF, LOOSE),
          laid_over(KINK, (0, 0), (1, 1)), closed_braid(2, [1, -1]), closed_braid(2, [1] * 19 + [-1]))
ALL = SAMPLES + ALTERNATE + OTHERS + tuple(goal for seed in range(4) for _, goal in walk(TREFOIL, 4, 9, seed))


def goes_by_turns(drawing):
    """Whether each strand goes over and under by turns, told by following the strands."""
    for row in drawing.crossings:
        for slot, other in ((2, 3), (4, 1)):
            if not [mate for mate in drawing.crossings if mate[other] == row[slot]]:
                return False
    return True


class AlternateTest(unittest.TestCase):
    def test_is_alternate(self):
        for drawing in ALTERNATE:
            self.assertIs(is_alternate(drawing), True)
        for drawing in OTHERS:
            self.assertIs(is_alternate(drawing), False)
        for drawing in ALL:
            self.assertEqual(is_alternate(drawing), goes_by_turns(drawing))

    def test_by_the_places_of_dark_corners(self):
        for drawing in ALL:
            even = all(place % 2 == 0 for face in shades(drawing) for _, place in face)
            self.assertEqual(is_alternate(drawing), even)

    def test_views(self):
        for drawing in ALL:
            order = list(range(len(drawing.crossings)))[::-1]
            for view in (mirrored(drawing), turned_about(drawing), in_order(drawing, order)):
                self.assertEqual(is_alternate(view), is_alternate(drawing))


class IdleTest(unittest.TestCase):
    def test_by_hand(self):
        for drawing in (NOTHING, RINGS, TREFOIL, LEFT, EIGHT, BORROMEAN, HOPF):
            self.assertTrue(same_kinds(idle_crossings(drawing), []))
        self.assertTrue(same_kinds(idle_crossings(KINK), [0]))
        self.assertEqual(idle_crossings(closed_braid(3, [1, 2])), [0, 1])
        self.assertEqual(idle_crossings(closed_braid(3, [1, 1, 1, 2])), [3])
        self.assertEqual(idle_crossings(closed_braid(3, [2, 1, 1, 1])), [0])
        self.assertEqual(idle_crossings(closed_braid(6, [1, 3, 3, 5])), [0, 3])
        self.assertEqual(idle_crossings(kinked(TREFOIL, 2, -1, 1)), [3])

    def test_by_faces(self):
        for drawing in ALL:
            goal = [index for index in range(len(drawing.crossings))
                    if any(sum(1 for corner in face if corner[0] == index) > 1 for face in faces(drawing))]
            self.assertEqual(idle_crossings(drawing), goal)


class AlternatedTest(unittest.TestCase):
    def test_facts(self):
        for drawing in ALL:
            one, other = alternated(drawing, 0), alternated(drawing, 1)
            self.assertTrue(is_alternate(one))
            self.assertTrue(is_alternate(other))
            self.assertEqual(one == drawing, is_alternate(drawing))
            self.assertEqual(other, mirrored(one))
            self.assertEqual(one.rings, drawing.rings)
            self.assertEqual(len(pieces(one)), len(pieces(drawing)))

    def test_which_are_exchanged(self):
        for drawing in ALL:
            odd = {index for face in shades(drawing) for index, place in face if place % 2 == 1}
            for parity in (0, 1):
                goal = drawing
                for index in range(len(drawing.crossings)):
                    if (index in odd) == (parity == 0):
                        goal = exchanged(goal, index)
                self.assertTrue(same_kinds(alternated(drawing, parity).crossings, goal.crossings))

    def test_by_hand(self):
        self.assertEqual(alternated(closed_braid(2, [1, -1]), 0), HOPF)
        self.assertEqual(alternated(closed_braid(2, [1, -1]), 1), mirrored(HOPF))
        self.assertEqual(alternated(closed_braid(3, [1, 2, 1, 2]), 0), EIGHT)
        self.assertEqual(alternated(RINGS, 1), RINGS)
        self.assertEqual(alternated(KINK_BACK, 1), mirrored(KINK_BACK))


class RefusedTest(unittest.TestCase):
    def test_no_drawing(self):
        for thing in NO_DRAWINGS:
            self.assertEqual(told_error(is_alternate, thing), ("BadDrawing", None))
            self.assertEqual(told_error(idle_crossings, thing), ("BadDrawing", None))
            self.assertEqual(told_error(alternated, thing, None), ("BadDrawing", None))

    def test_parity(self):
        for thing in (-1, 2, 99) + NO_NUMBERS:
            for drawing in (TREFOIL, NOTHING):
                self.assertEqual(told_error(alternated, drawing, thing), ("BadNumber", "parity"), thing)

    def test_names_and_new_lists(self):
        self.assertTrue(is_alternate(drawing=HOPF))
        self.assertEqual(alternated(parity=0, drawing=HOPF), HOPF)
        idle_crossings(drawing=KINK).clear()
        self.assertEqual(idle_crossings(KINK), [0])


if __name__ == "__main__":
    unittest.main()
