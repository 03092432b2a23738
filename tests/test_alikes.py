import unittest

from ringcubes.alikes import alike_paper
from ringcubes.braids import closed_braid
from ringcubes.drawings import Drawing
from ringcubes.maps import is_paper
from ringcubes.views import in_order, mirrored, renamed
from tests.samples import (BORROMEAN, EIGHT, HOPF, KINK, NO_DRAWINGS, RING, RINGS, SAMPLES, SMALL, TREFOIL,
                           fault_of_paper, plain_rings, told_error)
from tests.test_views import shuffled


TREFOIL_BESIDE = tuple((s, a + 10, b + 10, c + 10, d + 10) for s, a, b, c, d in TREFOIL.crossings)


class AlikeTest(unittest.TestCase):
    def test_drawings_alike(self):
        for drawing in SAMPLES:
            for seed in range(3):
                goal = shuffled(drawing, seed)
                told = alike_paper(drawing, goal)
                self.assertIsInstance(told, tuple)
                self.assertEqual(told[2:], ({}, {}))
                self.assertIs(is_paper(drawing, goal, told), True)
                for table in told[:2]:
                    self.assertTrue(all(list(row.values()) in ([1], [-1]) for row in table.values()))

    def test_by_the_words_of_the_document(self):
        for drawing in SMALL:
            goal = shuffled(drawing, 5)
            self.assertIsNone(fault_of_paper(drawing, goal, alike_paper(drawing, goal)))

    def test_crossings_exchanged_change_signs(self):
        drawing = Drawing(KINK.crossings + ((-1, 2, 3, 3, 2),), 0)
        for state, row in alike_paper(drawing, in_order(drawing, [1, 0]))[0].items():
            self.assertEqual(list(row.values()), [-1 if state[0] == (1, 1) else 1])
        three = Drawing(drawing.crossings + TREFOIL_BESIDE, 0)
        for state, row in alike_paper(three, in_order(three, [2, 3, 4, 0, 1]))[0].items():
            # Two crossings go behind three others, which keep their sequence up to their turning round.
            if sum(state[0][:2]) == 1 and sum(state[0][2:]) == 1:
                self.assertEqual(list(row.values()), [-1])

    def test_rings_beside_keep_their_sequence(self):
        drawing = Drawing(KINK.crossings, 2)
        goal = renamed(drawing, {0: 5, 1: 3})
        for state, row in alike_paper(drawing, goal)[0].items():
            ((choice, marks),) = row
            self.assertEqual((choice, marks[:2]), (state[0], state[1][:2]))
            if choice == (0,):
                self.assertEqual(plain_rings(goal, choice)[2:], [(3,), (5,)])
                self.assertEqual(marks[2:], state[1][:1:-1])
        self.assertEqual(alike_paper(RINGS, RINGS)[0][((), (1, -1, -1))], {((), (1, -1, -1)): 1})

    def test_refuses(self):
        for one, other in ((TREFOIL, mirrored(TREFOIL)), (TREFOIL, EIGHT), (RING, RINGS), (BORROMEAN, HOPF),
                           (closed_braid(2, [1] * 11), closed_braid(2, [1] * 12))):
            self.assertEqual(told_error(alike_paper, one, other), ("NotHere",))
        big = closed_braid(2, [1] * 11)
        self.assertEqual(told_error(alike_paper, big, big), ("TooMany", 10))
        self.assertEqual(told_error(alike_paper, big, shuffled(big, 1)), ("TooMany", 10))
        for thing in NO_DRAWINGS:
            self.assertEqual(told_error(alike_paper, thing, KINK), ("BadDrawing", None))
            self.assertEqual(told_error(alike_paper, KINK, thing), ("BadDrawing", None))
        self.assertEqual(len(alike_paper(other=RING, one=RING)[0]), 2)

    def test_new_each_time(self):
        for table in alike_paper(KINK, KINK):
            table[()] = {}
        self.assertIs(is_paper(KINK, KINK, alike_paper(KINK, KINK)), True)


if __name__ == "__main__":
    unittest.main()
