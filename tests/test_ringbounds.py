import itertools
import unittest

from ringcubes.alternates import alternated, is_alternate
from ringcubes.braids import closed_braid
from ringcubes.drawings import Drawing, pieces, way_count
from ringcubes.makings import side_by_side
from ringcubes.ownsums import s_number
from ringcubes.ringbounds import ring_bounds
from ringcubes.rings import smoothed
from ringcubes.shadeforms import signature
from ringcubes.views import mirrored
from tests.plainrules import MORE
from tests.samples import (EIGHT, HOPF, KINK, KINK_BACK, LEFT, NO_DRAWINGS, NOTHING, RING, RINGS, TREFOIL, joined,
                           same_kinds, told_error)
from tests.test_ownsums import ONE_WAY
from tests.walks import walk

WORDS = [word for size in (3, 4, 5) for word in itertools.product((1, -1, 2, -2), repeat=size)]
BRAIDS = [drawing for drawing in (closed_braid(3, word) for word in WORDS[::5]) if way_count(drawing) == 1]
LONG = (closed_braid(2, [1] * 19), closed_braid(3, [1, -2] * 10), closed_braid(3, [1, 2] * 10),
        closed_braid(4, [1, -2, 3, 2, -1, -3, 2, 1, 1, -2, 3, 3, 1]), closed_braid(2, [-1] * 13))


def plain_bounds(drawing):
    """The bounds by the words of the document."""
    choice = tuple(0 if row[0] == 1 else 1 for row in drawing.crossings)
    rings = smoothed(drawing, choice)
    lots = {}
    for sign in (1, -1):
        parts = [{at} for at in range(len(rings))]
        for row, bit in zip(drawing.crossings, choice):
            if row[0] == sign:
                met = [next(at for at, ring in enumerate(rings) if pair[0] in ring) for pair in joined(row, bit)]
                one, other = [next(part for part in parts if at in part) for at in met]
                if one is not other:
                    parts.remove(other)
                    one |= other
        lots[sign] = len(parts)
    w, r = sum(row[0] for row in drawing.crossings), len(rings)
    return (w - r + 2 * lots[1] - 1, w + r - 2 * lots[-1] + 1), lots[1] + lots[-1] == r + 1


class RingBoundsTest(unittest.TestCase):
    def test_by_hand(self):
        for drawing, told in ((TREFOIL, (2, 2)), (LEFT, (-2, -2)), (EIGHT, (0, 0)), (KINK, (0, 0)), (RING, (0, 0)),
                              (closed_braid(2, [1, 1, -1]), (0, 2)), (closed_braid(2, [1, -1, -1]), (-2, 0)),
                              (closed_braid(3, [1, 2] * 10), (18, 18)), (closed_braid(2, [1] * 19), (18, 18))):
            self.assertTrue(same_kinds(ring_bounds(drawing), told), drawing.crossings)

    def test_by_the_words_of_the_document(self):
        for drawing in tuple(BRAIDS) + ONE_WAY + LONG:
            told, is_one = plain_bounds(drawing)
            self.assertTrue(same_kinds(ring_bounds(drawing), told))
            self.assertEqual(told[0] == told[1], is_one)
            self.assertEqual(ring_bounds(mirrored(drawing)), (-told[1], -told[0]))

    def test_s_lies_between(self):
        unlike = 0
        for drawing in tuple(BRAIDS) + ONE_WAY + tuple(goal for _, goal in walk(TREFOIL, 5, 8, 9)):
            low, high = ring_bounds(drawing)
            unlike += low != high
            for prime in (2, 3):
                self.assertTrue(low <= s_number(prime, drawing) <= high)
        self.assertGreater(unlike, 5)

    def test_one_sign_or_by_turns(self):
        for drawing in tuple(BRAIDS) + ONE_WAY + LONG:
            low, high = ring_bounds(drawing)
            if drawing.plus == 0 or drawing.minus == 0 or is_alternate(drawing):
                self.assertEqual(low, high)
            low, high = ring_bounds(alternated(drawing, 0))
            self.assertEqual(low, high)

    def test_signature_of_alternate_drawings(self):
        for drawing in MORE + tuple(BRAIDS):
            for told in (alternated(drawing, 0), alternated(drawing, 1)):
                if len(pieces(told)) + told.rings == 1:
                    for prime in (2, 3):
                        self.assertEqual(s_number(prime, told), -signature(told))

    def test_least_bound_of_all_drawings(self):
        for drawing in MORE:
            w = drawing.plus - drawing.minus
            r = len(smoothed(drawing, tuple((1 - row[0]) // 2 for row in drawing.crossings)))
            for prime in (2, 3):
                s = s_number(prime, drawing)
                self.assertGreaterEqual(s, w - r + 1)
                if drawing.minus == 0:
                    self.assertEqual(s, w - r + 1)

    def test_refuses(self):
        for thing in NO_DRAWINGS:
            self.assertEqual(told_error(ring_bounds, thing), ("BadDrawing", None))
        for drawing in (NOTHING, RINGS, HOPF, KINK_BACK, side_by_side(TREFOIL, LEFT), Drawing(TREFOIL.crossings, 1),
                        closed_braid(2, [1] * 20), Drawing([], 2)):
            self.assertEqual(told_error(ring_bounds, drawing), ("NotOne",))
        self.assertEqual(ring_bounds(drawing=TREFOIL), (2, 2))


if __name__ == "__main__":
    unittest.main()
