import itertools
import random
import unittest

from ringcubes.braids import closed_braid
from ringcubes.cube import step_rows
from ringcubes.drawings import Drawing
from ringcubes.odd import odd_signs, odd_step_rows, square_kind
from tests.oddworks import plain_kind, plain_odd_rows, plain_signs
from tests.samples import (BORROMEAN, EIGHT, HOPF, KINK, KINK_BACK, LEFT, NO_DRAWINGS, NO_NUMBERS, NOTHING, RINGS, SMALL,
                           TREFOIL, by_spots, is_ascending, same_kinds, told_error)

FIVE = closed_braid(3, [1, 1, -2, 1, -2])
ALL = SMALL + (FIVE, closed_braid(3, [1, 2, -1, -2, 1]), closed_braid(4, [1, -2, 3, -2]), Drawing(EIGHT.crossings, 1))
BIG = closed_braid(2, [1] * 11)
NO_ARROWS = ((0,), (0, 0), (0, 0, 0, 0), [0, 0, 0], (0, 0, 2), (0, -1, 0), (0, True, 0), (0, 0, False), (0, 0, 0.0), "000",
             (0, 0, None), (0, 0, "0"), 0, 1, True, False, {}, {0: 0, 1: 0, 2: 0}, (), ((0, 0, 0),))


def arrows_of(drawing):
    """None, and some arrows drawn."""
    many = len(drawing.crossings)
    chance = random.Random(many)
    return [None, (0,) * many, (1,) * many] + [tuple(chance.randrange(2) for _ in range(many)) for _ in range(2)]


def squares(drawing):
    """All triples of a choice and two crossings at which it is 0."""
    many = len(drawing.crossings)
    for choice in itertools.product((0, 1), repeat=many):
        for one, other in itertools.permutations(range(many), 2):
            if choice[one] == choice[other] == 0:
                yield choice, one, other


class KindTest(unittest.TestCase):
    def test_by_the_words_of_the_document(self):
        met = {}
        for drawing in ALL:
            for arrows in arrows_of(drawing):
                for choice, one, other in squares(drawing):
                    kind = square_kind(drawing, arrows, choice, one, other)
                    self.assertEqual(kind, plain_kind(drawing, arrows, choice, one, other))
                    self.assertEqual(square_kind(drawing, arrows, choice, other, one), kind)
                    met[kind] = met.get(kind, 0) + 1
        self.assertEqual(sorted(met), ["against", "head", "same", "tail"])
        self.assertGreater(min(met.values()), 50)

    def test_none_is_nothing_but_zeros(self):
        for drawing in (TREFOIL, FIVE):
            for choice, one, other in squares(drawing):
                zeros = (0,) * len(choice)
                self.assertEqual(square_kind(drawing, None, choice, one, other),
                                 square_kind(drawing, zeros, choice, one, other))

    def test_arrows_exchange_kinds(self):
        # One arrow turned exchanges tail and head.
        exchanged = {"tail": "head", "head": "tail"}
        met = 0
        for drawing in ALL:
            for choice, one, other in squares(drawing):
                kind = square_kind(drawing, None, choice, one, other)
                if kind in exchanged:
                    met += 1
                    arrows = tuple(int(index == one) for index in range(len(choice)))
                    self.assertEqual(square_kind(drawing, arrows, choice, one, other), exchanged[kind])
        self.assertGreater(met, 0)

    def test_refuses(self):
        for thing in NO_DRAWINGS:
            self.assertEqual(told_error(square_kind, thing, None, None, None, None), ("BadDrawing", None))
        for thing in NO_ARROWS:
            self.assertEqual(told_error(square_kind, TREFOIL, thing, None, None, None), ("BadArrows",), thing)
        for thing in ((0, 0), (0, 0, 0, 0), [0, 0, 0], (0, 0, 2), (True, 0, 0), None, 0, "000"):
            self.assertEqual(told_error(square_kind, TREFOIL, None, thing, None, None), ("BadChoice",), thing)
        for thing in (-1, 3, 1) + NO_NUMBERS:
            self.assertEqual(told_error(square_kind, TREFOIL, None, (0, 1, 0), thing, None), ("BadCrossing",), thing)
            self.assertEqual(told_error(square_kind, TREFOIL, None, (0, 1, 0), 0, thing), ("BadCrossing",), thing)
        self.assertEqual(told_error(square_kind, TREFOIL, None, (0, 1, 0), 0, 0), ("BadCrossing",))
        self.assertEqual(told_error(square_kind, TREFOIL, None, (0, 1, 0), 0, 2), None)
        self.assertEqual(square_kind(other=2, one=0, choice=(0, 1, 0), arrows=(1, 0, 1), drawing=TREFOIL),
                         plain_kind(TREFOIL, (1, 0, 1), (0, 1, 0), 0, 2))
        # It does not go through the whole cube.
        zeros = (0,) * 11
        self.assertEqual(square_kind(BIG, None, zeros, 3, 7), plain_kind(BIG, None, zeros, 3, 7))


class SignsTest(unittest.TestCase):
    def test_by_hand(self):
        self.assertEqual(odd_signs(NOTHING, None), {})
        self.assertEqual(odd_signs(RINGS, ()), {})
        self.assertTrue(same_kinds(odd_signs(KINK, None), {((0,), 0): 1}))

    def test_by_the_words_of_the_document(self):
        for drawing in ALL:
            for arrows in arrows_of(drawing):
                told = odd_signs(drawing, arrows)
                self.assertTrue(is_ascending(told))
                goal = plain_signs(drawing, arrows)
                self.assertTrue(same_kinds(told, {key: goal[key] for key in sorted(goal)}))

    def test_squares(self):
        for drawing in ALL + (BORROMEAN,):
            for arrows in arrows_of(drawing)[-2:]:
                told = odd_signs(drawing, arrows)
                for choice, one, other in squares(drawing):
                    with_one = choice[:one] + (1,) + choice[one + 1:]
                    with_other = choice[:other] + (1,) + choice[other + 1:]
                    product = told[(choice, one)] * told[(choice, other)]
                    product *= told[(with_one, other)] * told[(with_other, one)]
                    kind = square_kind(drawing, arrows, choice, one, other)
                    self.assertEqual(product, -1 if kind in ("same", "tail") else 1)

    def test_refuses(self):
        for thing in NO_DRAWINGS:
            self.assertEqual(told_error(odd_signs, thing, 0), ("BadDrawing", None))
        for thing in NO_ARROWS:
            self.assertEqual(told_error(odd_signs, TREFOIL, thing), ("BadArrows",), thing)
        self.assertEqual(told_error(odd_signs, BIG, (0,) * 10), ("BadArrows",))
        self.assertEqual(told_error(odd_signs, BIG, (0,) * 11), ("TooMany", 10))
        self.assertEqual(told_error(odd_signs, BIG, None), ("TooMany", 10))
        self.assertEqual(odd_signs(arrows=None, drawing=KINK_BACK), {((0,), 0): 1})
        self.assertEqual(len(odd_signs(closed_braid(2, [1] * 10), None)), 5120)


class RowsTest(unittest.TestCase):
    def test_by_hand(self):
        self.assertEqual(odd_step_rows(KINK, None, 0, 1), ((1,), (1,)))
        self.assertEqual(odd_step_rows(KINK, None, 0, 3), ((1,),))
        # A split: tail less head; the arrow turned changes the sign.
        self.assertEqual(sorted(odd_step_rows(Drawing(KINK_BACK.crossings, 0), None, -1, -1)[0]), [-1, 1])
        one = odd_step_rows(Drawing(KINK_BACK.crossings, 0), (0,), -1, -1)
        other = odd_step_rows(Drawing(KINK_BACK.crossings, 0), (1,), -1, -1)
        self.assertEqual(one, tuple(tuple(-number for number in row) for row in other))
        self.assertEqual(odd_step_rows(RINGS, None, 0, 1), ((), (), ()))
        self.assertEqual(odd_step_rows(RINGS, None, 0, 2), ())

    def test_by_the_words_of_the_document(self):
        for drawing in ALL:
            spots = by_spots(drawing)
            for arrows in arrows_of(drawing)[::3]:
                signs = plain_signs(drawing, arrows)
                for spot in list(spots) + [(-9, 0), (0, 99)]:
                    told = odd_step_rows(drawing, arrows, *spot)
                    goal = tuple(tuple(row) for row in plain_odd_rows(drawing, arrows, signs, spots, spot))
                    self.assertTrue(same_kinds(told, goal))

    def test_two_steps_are_nothing_and_over_two_it_is_the_step(self):
        for drawing in ALL + (BORROMEAN, LEFT, HOPF):
            arrows = arrows_of(drawing)[-1]
            for spot in by_spots(drawing):
                first = odd_step_rows(drawing, arrows, *spot)
                second = odd_step_rows(drawing, arrows, spot[0] + 1, spot[1])
                for row in first:
                    for column in range(len(second[0]) if second else 0):
                        self.assertEqual(sum(a * other[column] for a, other in zip(row, second)), 0)
                plain = step_rows(drawing, *spot)
                self.assertEqual([[number % 2 for number in row] for row in first],
                                 [[number % 2 for number in row] for row in plain])

    def test_refuses(self):
        for thing in NO_DRAWINGS:
            self.assertEqual(told_error(odd_step_rows, thing, 0, None, None), ("BadDrawing", None))
        for thing in NO_ARROWS:
            self.assertEqual(told_error(odd_step_rows, TREFOIL, thing, None, None), ("BadArrows",), thing)
        for thing in NO_NUMBERS:
            self.assertEqual(told_error(odd_step_rows, BIG, None, thing, thing), ("BadNumber", "height"), thing)
            self.assertEqual(told_error(odd_step_rows, BIG, None, 0, thing), ("BadNumber", "weight"), thing)
        self.assertEqual(told_error(odd_step_rows, BIG, None, 0, 0), ("TooMany", 10))
        self.assertEqual(odd_step_rows(weight=3, height=0, arrows=None, drawing=KINK), ((1,),))


if __name__ == "__main__":
    unittest.main()
