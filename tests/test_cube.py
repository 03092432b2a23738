import unittest

from ringcubes.braids import closed_braid
from ringcubes.cube import states, step_rows
from ringcubes.drawings import Drawing
from tests.samples import (HOPF, KINK, KINK_BACK, NO_DRAWINGS, NO_NUMBERS, NOTHING, RINGS, SMALL, TREFOIL, by_spots,
                           plain_rows, same_kinds, told_error)


class StatesTest(unittest.TestCase):
    def test_by_hand(self):
        for drawing, height, weight, told in (
                (NOTHING, 0, 0, [((), ())]), (NOTHING, 0, 1, []), (NOTHING, 1, 0, []),
                (RINGS, 0, 3, [((), (1, 1, 1))]),
                (RINGS, 0, 1, [((), (-1, 1, 1)), ((), (1, -1, 1)), ((), (1, 1, -1))]), (RINGS, 0, 2, []),
                (KINK, 0, 1, [((0,), (-1, 1)), ((0,), (1, -1))]), (KINK, 0, 3, [((0,), (1, 1))]),
                (KINK, 1, 1, [((1,), (-1,))]), (KINK, 1, 3, [((1,), (1,))]), (KINK, 1, 5, []),
                (KINK_BACK, -1, 0, [((0,), (1, 1))]),
                (KINK_BACK, 0, 2, [((1,), (1, 1, 1))]),
                (HOPF, 1, 2, [((0, 1), (-1,)), ((1, 0), (-1,))])):
            self.assertTrue(same_kinds(states(drawing, height, weight), told), states(drawing, height, weight))

    def test_all_heights_and_weights(self):
        for drawing in SMALL:
            spots = by_spots(drawing)
            for height in range(-7, 8):
                for weight in range(-16, 17):
                    told = states(drawing, height, weight)
                    self.assertEqual(told, spots.get((height, weight), []))

    def test_many_marks(self):
        drawing = Drawing(TREFOIL.crossings, 8)
        self.assertEqual(len(states(drawing, 0, 3)), 252)
        self.assertEqual(states(drawing, 0, 13), [((0, 0, 0), (1,) * 10)])
        self.assertEqual(states(drawing, 0, 15), [])

    def test_new_lists_and_names(self):
        states(KINK, 0, 1).clear()
        self.assertEqual(len(states(weight=1, height=0, drawing=KINK)), 2)
        self.assertEqual(step_rows(weight=1, height=0, drawing=KINK), ((1,), (1,)))


class StepTest(unittest.TestCase):
    def test_by_hand(self):
        two = closed_braid(2, [1, 1])
        for drawing, height, weight, told in (
                (NOTHING, 0, 0, ((),)), (NOTHING, 0, 1, ()), (RINGS, 0, 1, ((), (), ())),
                (KINK, 0, 1, ((1,), (1,))), (KINK, 0, 3, ((1,),)), (KINK, 0, -1, ((),)), (KINK, 1, 1, ((),)),
                (KINK_BACK, -1, 0, ((0, 1, 1),)), (KINK_BACK, -1, 1, ()),
                (two, 0, 2, ((1, 1), (1, 1))), (two, 1, 2, ((1,), (-1,))), (two, 1, 4, ((1, 1), (-1, -1)))):
            self.assertTrue(same_kinds(step_rows(drawing, height, weight), told), step_rows(drawing, height, weight))

    def test_all_rows(self):
        for drawing in SMALL:
            spots = by_spots(drawing)
            for height, weight in list(spots) + [(-9, 0), (9, 1), (0, 99)]:
                told = tuple(tuple(row) for row in plain_rows(drawing, spots, (height, weight)))
                self.assertTrue(same_kinds(step_rows(drawing, height, weight), told))

    def test_one_step_behind_the_other_is_nothing(self):
        for drawing in SMALL + (closed_braid(3, [1, -2, 1, 2, 2, -1]),):
            for height in range(-5, 6):
                for weight in range(-9, 12):
                    first = step_rows(drawing, height, weight)
                    second = step_rows(drawing, height + 1, weight)
                    for row in first:
                        for column in range(len(second[0]) if second else 0):
                            self.assertEqual(sum(a * other[column] for a, other in zip(row, second)), 0)

    def test_rows_of_unlike_states_are_of_their_lengths(self):
        self.assertEqual(step_rows(TREFOIL, 3, 9), ((),) * len(states(TREFOIL, 3, 9)))
        self.assertEqual(step_rows(TREFOIL, -1, 1), ())
        self.assertEqual([len(row) for row in step_rows(TREFOIL, 1, 5)], [len(states(TREFOIL, 2, 5))] * 3)


class RefusedTest(unittest.TestCase):
    def test_sequence_of_errors(self):
        big = closed_braid(2, [1] * 11)
        for call in (states, step_rows):
            for thing in NO_DRAWINGS:
                self.assertEqual(told_error(call, thing, None, None), ("BadDrawing", None))
            for thing in NO_NUMBERS:
                self.assertEqual(told_error(call, big, thing, thing), ("BadNumber", "height"), thing)
                self.assertEqual(told_error(call, big, 0, thing), ("BadNumber", "weight"), thing)
                self.assertEqual(told_error(call, KINK, 0, thing), ("BadNumber", "weight"), thing)
            self.assertEqual(told_error(call, big, 0, 0), ("TooMany", 10))
            self.assertEqual(told_error(call, closed_braid(2, [1] * 10), 0, 8), None)


if __name__ == "__main__":
    unittest.main()
