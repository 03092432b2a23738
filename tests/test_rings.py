import itertools
import unittest

from ringcubes.braids import closed_braid
from ringcubes.drawings import Drawing
from ringcubes.rings import edge, smoothed
from tests.samples import (HOPF, KINK, KINK_BACK, NO_DRAWINGS, NO_NUMBERS, NOTHING, RINGS, SAMPLES, TREFOIL,
                           plain_rings, same_kinds, told_error)

NO_CHOICES = (None, True, 0, "000", [0, 0, 0], {0: 0, 1: 0, 2: 0}, (), (0, 0), (0, 0, 0, 0), (0, 0, 2), (-1, 0, 0),
              (0, 0, True), (False, 0, 0), (0, "0", 0), (0, 0, 0.0), (None, 0, 0), ((0,), 0, 0), b"000")


class SmoothedTest(unittest.TestCase):
    def test_by_hand(self):
        for drawing, choice, told in (
                (NOTHING, (), []), (RINGS, (), [(), (), ()]),
                (KINK, (0,), [(0,), (1,)]), (KINK, (1,), [(0, 1)]),
                (KINK_BACK, (0,), [(), (0, 1)]), (KINK_BACK, (1,), [(), (0,), (1,)]),
                (HOPF, (0, 0), [(0, 2), (1, 3)]), (HOPF, (0, 1), [(0, 1, 2, 3)]), (HOPF, (1, 0), [(0, 1, 2, 3)]),
                (HOPF, (1, 1), [(0, 1), (2, 3)]),
                (TREFOIL, (0, 0, 0), [(0, 2, 4), (1, 3, 5)]), (TREFOIL, (1, 1, 1), [(0, 1), (2, 3), (4, 5)])):
            self.assertTrue(same_kinds(smoothed(drawing, choice), told), (choice, smoothed(drawing, choice)))

    def test_all_choices(self):
        for drawing in SAMPLES:
            for choice in itertools.product((0, 1), repeat=len(drawing.crossings)):
                self.assertTrue(same_kinds(smoothed(drawing, choice), plain_rings(drawing, choice)))

    def test_20_crossings(self):
        drawing = closed_braid(2, [1] * 20)
        self.assertEqual(len(smoothed(drawing, (1,) * 20)), 20)
        self.assertEqual(len(smoothed(drawing, (0,) * 20)), 2)

    def test_wrong_choices(self):
        for thing in NO_CHOICES:
            self.assertEqual(told_error(smoothed, TREFOIL, thing), ("BadChoice",), thing)
            self.assertEqual(told_error(edge, TREFOIL, thing, 9), ("BadChoice",), thing)
        self.assertEqual(told_error(smoothed, RINGS, (0,)), ("BadChoice",))
        self.assertEqual(told_error(smoothed, RINGS, []), ("BadChoice",))

    def test_new_lists_and_names(self):
        smoothed(TREFOIL, (0, 0, 0)).clear()
        self.assertEqual(len(smoothed(choice=(0, 0, 0), drawing=TREFOIL)), 2)


class EdgeTest(unittest.TestCase):
    def test_by_hand(self):
        two = Drawing(HOPF.crossings, 2)
        for drawing, choice, crossing, told in (
                (KINK, (0,), 0, ("join", (0, 1, 0))), (KINK_BACK, (0,), 0, ("split", (1, 1, 2))),
                (HOPF, (0, 0), 0, ("join", (0, 1, 0))), (HOPF, (0, 0), 1, ("join", (0, 1, 0))),
                (HOPF, (0, 1), 0, ("split", (0, 0, 1))), (HOPF, (1, 0), 1, ("split", (0, 0, 1))),
                (two, (0, 0), 0, ("join", (2, 3, 2))), (two, (0, 1), 0, ("split", (2, 2, 3))),
                (TREFOIL, (1, 1, 0), 2, ("split", (0, 0, 2))), (TREFOIL, (0, 1, 1), 0, ("split", (0, 0, 1)))):
            self.assertTrue(same_kinds(edge(drawing, choice, crossing), told), edge(drawing, choice, crossing))

    def test_all_edges(self):
        words = set()
        for drawing in SAMPLES + (closed_braid(5, [1, -3, 2, 4]),):
            for choice in itertools.product((0, 1), repeat=len(drawing.crossings)):
                for crossing, bit in enumerate(choice):
                    if bit == 0:
                        words.add(self.check_edge(drawing, choice, crossing))
                    else:
                        self.assertEqual(told_error(edge, drawing, choice, crossing), ("BadCrossing",))
        self.assertEqual(words, {"join", "split"})

    def check_edge(self, drawing, choice, crossing):
        behind = plain_rings(drawing, choice[:crossing] + (1,) + choice[crossing + 1:])
        ahead = plain_rings(drawing, choice)
        word, (i, j, k) = edge(drawing, choice, crossing)
        gone = [at for at, ring in enumerate(ahead) if ring not in behind]
        come = [at for at, ring in enumerate(behind) if ring not in ahead]
        self.assertEqual((gone, come), ([i, j], [k]) if word == "join" else ([i], [j, k]))
        return word

    def test_wrong_crossings(self):
        for thing in (-1, 3, 99) + NO_NUMBERS:
            self.assertEqual(told_error(edge, TREFOIL, (0, 0, 0), thing), ("BadCrossing",), thing)
        self.assertEqual(told_error(edge, TREFOIL, (0, 1, 0), 1), ("BadCrossing",))
        self.assertEqual(told_error(edge, RINGS, (), 0), ("BadCrossing",))
        self.assertEqual(edge(crossing=0, choice=(0,), drawing=KINK), ("join", (0, 1, 0)))

    def test_no_drawing(self):
        for thing in NO_DRAWINGS:
            self.assertEqual(told_error(smoothed, thing, None), ("BadDrawing", None))
            self.assertEqual(told_error(edge, thing, None, None), ("BadDrawing", None))


if __name__ == "__main__":
    unittest.main()
