import unittest

from ringcubes.braids import closed_braid
from ringcubes.drawings import Drawing, pieces, way_count
from ringcubes.faces import faces
from ringcubes.makings import joined_at, side_by_side
from ringcubes.ownsums import own_choice, own_hues, own_sum, s_number
from ringcubes.partings import exchanged
from ringcubes.rings import smoothed
from ringcubes.rules import rule_step
from ringcubes.spreads import spread
from ringcubes.views import mirrored, way_turned
from tests.plainrules import FEW, MORE, by_heights, led_rows
from tests.samples import (BORROMEAN, EIGHT, HANDS, HOPF, KINK, KINK_BACK, LEFT, LOOSE, NO_DRAWINGS, NOTHING, RING, RINGS,
                           TREFOIL, TWO_PIECES, ends_of, is_ascending, joined, plain_rank, plain_rings, plain_spot,
                           same_kinds, told_error)
from tests.test_rooms import NO_PRIMES
from tests.test_views import shuffled
from tests.walks import walk

BIG = closed_braid(2, [1] * 11)
WIDE = closed_braid(3, [1, -2] * 10)
ONE_WAY = (RING, KINK, TREFOIL, LEFT, EIGHT, closed_braid(3, [1, 2]), closed_braid(3, [1, 1, 1, 2, -1, 2]),
           closed_braid(3, [1, 1, 1, -2, 1, -2]), closed_braid(3, [1, 2] * 4), closed_braid(4, [1, -2, 3, -2, 1, -2, 3]),
           closed_braid(3, [-1, 2, -1, -1, -1, 2]))


def plain_hues(drawing):
    """The hues, by trying to give them in turn until nothing changes."""
    choice = tuple(0 if row[0] == 1 else 1 for row in drawing.crossings)
    rings = plain_rings(drawing, choice)
    ties = [tuple(next(at for at, ring in enumerate(rings) if pair[0] in ring) for pair in joined(row, bit))
            for row, bit in zip(drawing.crossings, choice)]
    hues = {at: 0 for at in range(drawing.rings)}
    for piece in pieces(drawing):
        arcs = {arc for index in piece for arc in drawing.crossings[index][1:]}
        hues[next(at for at, ring in enumerate(rings) if min(arcs) in ring)] = 0
    for _ in rings:
        for one, other in ties + [tie[::-1] for tie in ties]:
            if one in hues:
                hues.setdefault(other, 1 - hues[one])
    return tuple(hues[at] for at in range(len(rings))), ties


def plain_s(prime, drawing):
    """The number s by ranks: the greatest weight from which on there are states enough."""
    heights = by_heights(drawing)
    here = [state for _, state in heights[0]]
    below = [state for _, state in heights.get(-1, [])]
    made = led_rows(prime, (1, 0), drawing, below, here)
    told = own_sum(prime, drawing)
    own = [told.get(state, 0) for state in here]
    found = []
    for least in range(min(weight for weight, _ in heights[0]), max(weight for weight, _ in heights[0]) + 1):
        # Only what is of less weight has to be made in full.
        columns = [at for at, (weight, _) in enumerate(heights[0]) if weight < least]
        rows = [[row[at] for at in columns] for row in made]
        if plain_rank(prime, rows + [[own[at] for at in columns]]) == plain_rank(prime, rows):
            found.append(least)
    return max(found) + 1


def saddles(drawing):
    """All drawings that one saddle makes of a drawing."""
    face_of = {corner: at for at, face in enumerate(faces(drawing)) for corner in face}
    piece_of = {index: at for at, piece in enumerate(pieces(drawing)) for index in piece}
    ends = {}
    for index, row in enumerate(drawing.crossings):
        for place, (arc, goes_in) in enumerate(ends_of(row)):
            if goes_in:
                ends[arc] = (index, place)
    told = []
    for one in drawing.arcs:
        for other in drawing.arcs:
            (c, k), (d, m) = ends[one], ends[other]
            near = face_of[(c, (k - 1) % 4)] == face_of[(d, (m - 1) % 4)] or face_of[(c, k)] == face_of[(d, m)]
            if one < other and (near or piece_of[c] != piece_of[d]):
                rows = [list(row) for row in drawing.crossings]
                slots = [next(slot for slot in (1, 3) if rows[at][slot] == arc) for at, arc in ((c, one), (d, other))]
                rows[c][slots[0]], rows[d][slots[1]] = other, one
                told.append(Drawing([tuple(row) for row in rows], drawing.rings))
    return told


class OwnChoiceTest(unittest.TestCase):
    def test_by_hand(self):
        self.assertTrue(same_kinds(own_choice(TREFOIL), (0, 0, 0)))
        self.assertTrue(same_kinds(own_choice(closed_braid(3, [1, -2, 1, -2])), (0, 1, 0, 1)))
        self.assertTrue(same_kinds(own_choice(RINGS), ()))
        self.assertTrue(same_kinds(own_hues(TREFOIL), (0, 1)))
        self.assertTrue(same_kinds(own_hues(RINGS), (0, 0, 0)))
        self.assertTrue(same_kinds(own_hues(NOTHING), ()))
        self.assertTrue(same_kinds(own_hues(Drawing(TREFOIL.crossings, 2)), (0, 0, 0, 1)))
        self.assertEqual(own_hues(closed_braid(4, [1, 2, 3])), (0, 1, 0, 1))
        self.assertEqual(own_hues(closed_braid(4, [2, 1, 3, 2])).count(1), 2)
        self.assertEqual(len(own_choice(WIDE)), 20)
        self.assertEqual(own_hues(WIDE), (0, 1, 0))

    def test_by_the_words_of_the_document(self):
        for drawing in MORE + (TWO_PIECES, Drawing(TWO_PIECES.crossings, 8), WIDE,
                               side_by_side(LEFT, TREFOIL), side_by_side(HOPF, shuffled(EIGHT, 4))):
            hues, ties = plain_hues(drawing)
            self.assertTrue(same_kinds(own_hues(drawing), hues))
            self.assertTrue(all(one != other and hues[one] != hues[other] for one, other in ties))
            self.assertEqual(len(hues), len(smoothed(drawing, own_choice(drawing))))

    def test_views(self):
        for seed, drawing in enumerate(MORE):
            for view in (mirrored(drawing), shuffled(drawing, seed)):
                self.assertEqual(len(own_hues(view)), len(own_hues(drawing)))
                self.assertEqual(own_hues(view)[:view.rings], (0,) * view.rings)


class OwnSumTest(unittest.TestCase):
    def test_by_hand(self):
        self.assertTrue(same_kinds(own_sum(3, closed_braid(2, [1, 1, 1])),
                                   {((0, 0, 0), (-1, -1)): 2, ((0, 0, 0), (-1, 1)): 1}))
        self.assertTrue(same_kinds(own_sum(2, TREFOIL), {((0, 0, 0), (-1, -1)): 1, ((0, 0, 0), (-1, 1)): 1}))
        self.assertTrue(same_kinds(own_sum(97, RINGS), {((), (-1, -1, -1)): 1}))
        self.assertTrue(same_kinds(own_sum(97, NOTHING), {((), ()): 1}))
        self.assertEqual(own_sum(5, closed_braid(4, [1, 2, 3])),
                         {((0, 0, 0), (-1, a, -1, b)): 1 if a == b else 4 for a in (-1, 1) for b in (-1, 1)})

    def test_by_the_words_of_the_document(self):
        for drawing in MORE:
            hues, _ = plain_hues(drawing)
            choice = own_choice(drawing)
            for prime in (2, 3, 97):
                told = own_sum(prime, drawing)
                self.assertTrue(is_ascending(told))
                self.assertEqual(len(told), 2 ** sum(hues))
                for (bits, marks), number in told.items():
                    self.assertEqual(bits, choice)
                    self.assertTrue(all(mark == -1 for mark, hue in zip(marks, hues) if hue == 0))
                    odd = sum(1 for mark, hue in zip(marks, hues) if hue == 1 and mark == -1) % 2
                    self.assertEqual(number, prime - 1 if odd else 1)

    def test_the_step_leads_it_to_nothing(self):
        for drawing in MORE:
            for prime in (2, 3, 5):
                total = {}
                for state, number in own_sum(prime, drawing).items():
                    self.assertEqual(plain_spot(drawing, state)[0], 0)
                    for goal, times in rule_step(prime, (1, 0), drawing, state).items():
                        total[goal] = (total.get(goal, 0) + number * times) % prime
                self.assertFalse(any(total.values()))


class SNumberTest(unittest.TestCase):
    def test_by_hand(self):
        for drawing, told in ((closed_braid(2, [1, 1, 1]), 2), (LEFT, -2), (EIGHT, 0), (KINK, 0), (KINK_BACK, -1), (HOPF, 1),
                              (way_turned(HOPF, 0), -1), (closed_braid(3, [1, 2] * 4), 6), (closed_braid(3, [1, 2] * 5), 8),
                              (closed_braid(2, [1] * 10), 9), (closed_braid(3, [1, 1, 1, 2, -1, 2]), 2)):
            for prime in (2, 3, 97):
                self.assertTrue(same_kinds(s_number(prime, drawing), told), drawing.crossings)
        for rings in range(9):
            self.assertTrue(same_kinds(s_number(2, Drawing([], rings)), 1 - rings))

    def test_by_ranks(self):
        for drawing in FEW + (Drawing(LEFT.crossings, 2), TWO_PIECES):
            for prime in (2, 3):
                self.assertEqual(s_number(prime, drawing), plain_s(prime, drawing))

    def test_spread(self):
        for drawing in ONE_WAY:
            for prime in (2, 3, 5):
                s = s_number(prime, drawing)
                for rule in ((1, 0), (1, 1) if prime == 2 else (0, 1)):
                    self.assertEqual(spread(prime, rule, drawing), {(0, s - 1): 1, (0, s + 1): 1})
        for drawing in MORE:
            if drawing != NOTHING:
                s = s_number(3, drawing)
                self.assertLessEqual({(0, s - 1), (0, s + 1)}, set(spread(3, (1, 0), drawing)))

    def test_moves_keep_it(self):
        for seed, drawing in enumerate((HOPF, TREFOIL, EIGHT, KINK_BACK, LOOSE, way_turned(HOPF, 0), RINGS, TWO_PIECES)):
            for prime in (2, 3):
                told = s_number(prime, drawing)
                for _, goal in walk(drawing, 6, 9, seed):
                    self.assertEqual(s_number(prime, goal), told)
                self.assertEqual(s_number(prime, shuffled(drawing, seed)), told)

    def test_side_by_side_and_joined(self):
        for one, other in ((TREFOIL, LEFT), (TREFOIL, TREFOIL), (HOPF, KINK_BACK), (EIGHT, HOPF), (way_turned(HOPF, 0), HOPF),
                           (LEFT, way_turned(HOPF, 1)), (closed_braid(3, [1, 2]), TREFOIL)):
            for prime in (2, 3):
                both = s_number(prime, one) + s_number(prime, other)
                self.assertEqual(s_number(prime, side_by_side(one, other)), both - 1)
                for arc in one.arcs[::2]:
                    for mate in other.arcs[::3]:
                        told = s_number(prime, joined_at(one, arc, other, mate))
                        self.assertIn(told, (both, both - 2))
                        if way_count(one) == way_count(other) == 1:
                            self.assertEqual(told, both)
        self.assertEqual(s_number(3, side_by_side(TREFOIL, RINGS)), 2 + (1 - 3) - 1)

    def test_mirrored(self):
        for drawing in MORE + ONE_WAY:
            many = way_count(drawing)
            for prime in (2, 3):
                both = s_number(prime, drawing) + s_number(prime, mirrored(drawing))
                if many == 1:
                    self.assertEqual(both, 0)
                elif many:
                    self.assertTrue(2 - 2 * many <= both <= 2)

    def test_exchanged(self):
        for drawing in MORE + ONE_WAY:
            for index, row in enumerate(drawing.crossings):
                if row[0] == 1:
                    more = s_number(2, drawing) - s_number(2, exchanged(drawing, index))
                    self.assertIn(more, (0, 2))

    def test_saddles(self):
        for drawing in (HOPF, TREFOIL, EIGHT, LOOSE, way_turned(HOPF, 0), HANDS, TWO_PIECES, BORROMEAN):
            told = s_number(3, drawing)
            goals = saddles(drawing)
            self.assertTrue(goals)
            for goal in goals[::3]:
                self.assertEqual(abs(s_number(3, goal) - told), 1)

    def test_refuses(self):
        for call in (own_sum, s_number):
            for thing in NO_PRIMES:
                self.assertEqual(told_error(call, thing, None), ("BadPrime",), thing)
            for thing in NO_DRAWINGS:
                self.assertEqual(told_error(call, 3, thing), ("BadDrawing", None))
            self.assertEqual(told_error(call, 3, BIG), ("TooMany", 10))
        for thing in NO_DRAWINGS:
            self.assertEqual(told_error(own_choice, thing), ("BadDrawing", None))
            self.assertEqual(told_error(own_hues, thing), ("BadDrawing", None))
        own_sum(drawing=TREFOIL, prime=3).clear()
        self.assertEqual(len(own_sum(3, TREFOIL)), 2)
        self.assertEqual((s_number(drawing=TREFOIL, prime=2), own_choice(drawing=HOPF), own_hues(drawing=HOPF)),
                         (2, (0, 0), (0, 1)))


if __name__ == "__main__":
    unittest.main()
