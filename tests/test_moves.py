import itertools
import unittest

from ringcubes.braids import closed_braid
from ringcubes.drawings import Drawing, linking, pieces, way_count, ways
from ringcubes.faces import faces
from ringcubes.moves import kinked, laid_over, pulled_off, ring_kinked, slid, unkinked
from ringcubes.views import alike
from tests.samples import (BORROMEAN, EIGHT, HOPF, KINK, LOOSE, MIXED, NO_DRAWINGS, NO_NUMBERS, NOTHING, RING, RINGS,
                           SAMPLES, SMALL, TREFOIL, TWO_PIECES, ends_of, told_error)
from tests.walks import moves_let, sides, walk

MANY = closed_braid(3, [1, -2] * 10)
NINETEEN = closed_braid(3, [1, -2] * 9 + [1])


def looked_at(drawing, side):
    """The index of the face at which a side of an arc looks."""
    arc, number = side
    for index, crossing in enumerate(drawing.crossings):
        for place, end in enumerate(ends_of(crossing)):
            if end == (arc, True):
                corner = (index, (place - 1) % 4 if number == 0 else place)
    return [at for at, face in enumerate(faces(drawing)) if corner in face][0]


def piece_of(drawing, arc):
    """The piece in which an arc is."""
    return [piece for piece in pieces(drawing)
            if any(arc in drawing.crossings[index][1:] for index in piece)][0]


def signs(drawing):
    """The sum of all signs."""
    return sum(crossing[0] for crossing in drawing.crossings)


def linkings(drawing):
    """The ascending list of all linkings of pairs of ways that are not 0, without regard of their sequence."""
    many = len(ways(drawing))
    found = [linking(drawing, one, other) for one, other in itertools.combinations(range(many), 2)]
    return sorted(number for number in found if number)


def strand_from(drawing, arc):
    """The list of (crossing, whether over) that the strand goes through from an arc on, once round."""
    into = {}
    for index, (_, under_in, under_out, over_in, over_out) in enumerate(drawing.crossings):
        into[under_in] = (index, False, under_out)
        into[over_in] = (index, True, over_out)
    row = []
    at = arc
    while not row or at != arc:
        index, over, at = into[at]
        row.append((index, over))
    return row


class FirstMoveTest(unittest.TestCase):
    def test_kinked_by_hand(self):
        self.assertTrue(alike(kinked(KINK, 0, 1, 0), Drawing([(1, 2, 1, 1, 0), (1, 0, 3, 3, 2)], 0)))
        self.assertTrue(alike(kinked(KINK, 0, -1, 1), Drawing([(1, 2, 1, 1, 0), (-1, 3, 2, 0, 3)], 0)))
        self.assertTrue(alike(kinked(KINK, 1, -1, 0), Drawing([(1, 0, 1, 2, 0), (-1, 1, 3, 3, 2)], 0)))

    def test_kinked_goes_through_itself_once_more(self):
        for drawing in SAMPLES:
            for arc in drawing.arcs:
                for sign in (1, -1):
                    for over in (0, 1):
                        self.check_kink(drawing, arc, sign, over)

    def check_kink(self, drawing, arc, sign, over):
        told = kinked(drawing, arc, sign, over)
        self.assertEqual(len(told.crossings), len(drawing.crossings) + 1)
        self.assertEqual((signs(told), told.rings), (signs(drawing) + sign, drawing.rings))
        fresh = [index for index in range(len(told.crossings)) if is_new_kink(told, index, drawing)]
        self.assertTrue(any(told.crossings[index][0] == sign and goes_so(told, index, over) for index in fresh))
        self.assertTrue(any(alike(unkinked(told, index), drawing) for index in fresh))

    def test_kinked_refuses(self):
        for arc in (-1, 6, 99, 100) + NO_NUMBERS:
            self.assertEqual(told_error(kinked, TREFOIL, arc, 0, 2), ("BadArc",), arc)
        for thing in (0, 2, -2) + NO_NUMBERS:
            self.assertEqual(told_error(kinked, TREFOIL, 0, thing, 2), ("BadNumber", "sign"), thing)
        for thing in (-1, 2) + NO_NUMBERS:
            self.assertEqual(told_error(kinked, TREFOIL, 0, 1, thing), ("BadNumber", "over"), thing)
        self.assertEqual(told_error(kinked, RINGS, 0, 1, 0), ("BadArc",))

    def test_kinked_up_to_20_crossings(self):
        self.assertEqual(len(kinked(NINETEEN, 0, 1, 1).crossings), 20)
        self.assertEqual(told_error(kinked, MANY, 0, 1, 1), ("TooMany", 20))
        self.assertEqual(told_error(kinked, MANY, 0, 1, 2), ("BadNumber", "over"))
        self.assertEqual(told_error(kinked, MANY, 99, 1, 1), ("BadArc",))

    def test_names(self):
        self.assertEqual(kinked(over=1, sign=-1, arc=0, drawing=KINK), kinked(KINK, 0, -1, 1))
        self.assertEqual(ring_kinked(sign=-1, drawing=RING), ring_kinked(RING, -1))
        self.assertEqual(unkinked(crossing=0, drawing=KINK), unkinked(KINK, 0))
        self.assertEqual(laid_over(under=(1, 1), over=(0, 0), drawing=KINK), laid_over(KINK, (0, 0), (1, 1)))
        self.assertEqual(pulled_off(other=1, one=0, drawing=LOOSE), pulled_off(LOOSE, 0, 1))
        drawing = closed_braid(3, [1, 2, 1])
        face = [move[1] for move, _ in moves_let(drawing) if move[0] == "slid"][0]
        self.assertEqual(slid(face=face, drawing=drawing), slid(drawing, face))

    def test_ring_kinked(self):
        for sign in (1, -1):
            self.assertTrue(alike(ring_kinked(RING, sign), Drawing([(sign, 0, 1, 1, 0)], 0)))
            told = ring_kinked(Drawing(TREFOIL.crossings, 2), sign)
            self.assertTrue(alike(told, Drawing(TREFOIL.crossings + ((sign, 10, 11, 11, 10),), 1)))
            self.assertEqual(unkinked(told, 3), Drawing(TREFOIL.crossings, 2))

    def test_ring_kinked_refuses(self):
        for thing in (0, 2, -2) + NO_NUMBERS:
            self.assertEqual(told_error(ring_kinked, NOTHING, thing), ("BadNumber", "sign"), thing)
        self.assertEqual(told_error(ring_kinked, NOTHING, 1), ("NotHere",))
        self.assertEqual(told_error(ring_kinked, TREFOIL, -1), ("NotHere",))
        self.assertEqual(told_error(ring_kinked, MANY, -1), ("NotHere",))
        self.assertEqual(told_error(ring_kinked, Drawing(MANY.crossings, 1), -1), ("TooMany", 20))
        self.assertEqual(len(ring_kinked(Drawing(NINETEEN.crossings, 1), -1).crossings), 20)

    def test_unkinked(self):
        self.assertEqual(unkinked(KINK, 0), RING)
        self.assertEqual(unkinked(Drawing([(-1, 5, 3, 3, 5)], 3), 0), Drawing([], 4))
        self.assertTrue(alike(unkinked(closed_braid(3, [1, 2]), 0), KINK))
        self.assertTrue(alike(unkinked(closed_braid(3, [1, -2]), 1), KINK))
        self.assertTrue(alike(unkinked(closed_braid(3, [-1, 2]), 0), KINK))
        self.assertTrue(alike(unkinked(closed_braid(3, [-2, 1, 1, 1]), 0), TREFOIL))

    def test_unkinked_refuses(self):
        for thing in (-1, 3, 99) + NO_NUMBERS:
            self.assertEqual(told_error(unkinked, TREFOIL, thing), ("BadCrossing",), thing)
        for index in range(3):
            self.assertEqual(told_error(unkinked, TREFOIL, index), ("NotHere",))
        self.assertEqual(told_error(unkinked, RINGS, 0), ("BadCrossing",))
        full = Drawing(KINK.crossings, 8)
        self.assertEqual(told_error(unkinked, full, 0), ("TooMany", 8))
        self.assertEqual(unkinked(Drawing(KINK.crossings, 7), 0), Drawing([], 8))
        self.assertTrue(alike(unkinked(Drawing(kinked(KINK, 0, 1, 1).crossings, 8), 1), full))
        self.assertEqual(told_error(unkinked, Drawing(HOPF.crossings, 8), 0), ("NotHere",))


def is_new_kink(told, index, drawing):
    """Whether a crossing can be unkinked so that the drawing comes."""
    return told_error(unkinked, told, index) is None and alike(unkinked(told, index), drawing)


def goes_so(drawing, index, over):
    """Whether the strand goes through this crossing twice, one time behind the other, first over it or under it."""
    _, under_in, under_out, over_in, over_out = drawing.crossings[index]
    return over_out == under_in if over else under_out == over_in


class SecondMoveTest(unittest.TestCase):
    def test_laid_over_where_sides_look_at_one_face(self):
        for drawing in SMALL:
            for over, under in itertools.product(sides(drawing), repeat=2):
                one_piece = piece_of(drawing, over[0]) == piece_of(drawing, under[0])
                apart = one_piece and looked_at(drawing, over) != looked_at(drawing, under)
                if over == under or apart:
                    self.assertEqual(told_error(laid_over, drawing, over, under), ("NotHere",))
                else:
                    self.check_laid(drawing, over, under)

    def check_laid(self, drawing, over, under):
        told = laid_over(drawing, over, under)
        many = len(drawing.crossings)
        self.assertEqual((len(told.crossings), told.rings), (many + 2, drawing.rings))
        self.assertEqual(sorted(row[0] for row in told.crossings), sorted([row[0] for row in drawing.crossings]
                                                                          + [1, -1]))
        self.assertEqual(len(pieces(told)), len(pieces(drawing)) - (piece_of(drawing, over[0])
                                                                    != piece_of(drawing, under[0])))
        pair = [(one, other) for one, other in itertools.combinations(range(many + 2), 2)
                if told_error(pulled_off, told, one, other) is None and alike(pulled_off(told, one, other), drawing)]
        self.assertTrue(pair)
        self.check_faces(drawing, over, under, told)

    def check_faces(self, drawing, over, under, told):
        """The face between is parted or joined, both faces behind the arcs get two corners more."""
        rows = faces(drawing)
        sizes = [len(face) for face in rows]
        across = {looked_at(drawing, over), looked_at(drawing, under)}
        behind = [looked_at(drawing, (over[0], 1 - over[1])), looked_at(drawing, (under[0], 1 - under[1]))]
        for at in behind:
            sizes[at] += 2
        between = sum(sizes[at] for at in across) + 2
        rest = [size for at, size in enumerate(sizes) if at not in across] + [2]
        found = sorted(len(face) for face in faces(told))
        if len(across) == 2:
            self.assertEqual(found, sorted(rest + [between]))
        else:
            self.assertIn(found, [sorted(rest + [part, between - part]) for part in range(1, between)])

    def test_unlike_sides_make_unlike_drawings(self):
        # Faces behind the arcs grow: so which sides were told shows in the corners of the faces.
        drawing = Drawing(TREFOIL.crossings + ((1, 10, 11, 11, 10),), 0)
        told = [laid_over(drawing, (0, side), (10, other)) for side in (0, 1) for other in (0, 1)]
        for one, other in itertools.combinations(told, 2):
            self.assertFalse(alike(one, other))
        told = [laid_over(drawing, (10, side), (0, other)) for side in (0, 1) for other in (0, 1)] + told
        for one, other in itertools.combinations(told, 2):
            self.assertFalse(alike(one, other))

    def test_laid_over_by_hand(self):
        # Two strands side by side, both upwards: the left one pushed over the right one and back.
        left, right = closed_braid(2, [1]).crossings[0][4], closed_braid(2, [1]).crossings[0][2]
        drawing = closed_braid(2, [1])
        told = {word: closed_braid(2, list(word)) for word in ((1, 1, -1), (1, -1, 1))}
        made = [laid_over(drawing, over, under) for over in sides(drawing) for under in sides(drawing)
                if told_error(laid_over, drawing, over, under) is None]
        self.assertNotEqual(left, right)
        for word in told:
            self.assertTrue(any(alike(one, told[word]) for one in made))

    def test_the_upper_strand_goes_over_twice(self):
        for drawing in (TREFOIL, TWO_PIECES, KINK):
            for over, under in itertools.product(sides(drawing), repeat=2):
                if told_error(laid_over, drawing, over, under) is None and over[0] != under[0]:
                    told = laid_over(drawing, over, under)
                    fresh = [at for at, row in enumerate(told.crossings) if at >= len(drawing.crossings)]
                    self.check_upper(drawing, told, over[0], under[0], fresh)

    def check_upper(self, drawing, told, over, under, fresh):
        many = {True: 0, False: 0}
        ahead = strand_from(drawing, over)
        for index, is_over in strand_from(told, over)[:2]:
            if index in fresh and is_over:
                many[True] += 1
        for index, is_over in strand_from(told, under)[:2]:
            if index in fresh and not is_over:
                many[False] += 1
        self.assertTrue(ahead)
        self.assertEqual(many, {True: 2, False: 2})

    def test_both_sides_of_one_arc(self):
        for drawing in (TREFOIL, KINK, EIGHT):
            for arc in drawing.arcs:
                for one, other in itertools.product((0, 1), repeat=2):
                    self.assertEqual(told_error(laid_over, drawing, (arc, one), (arc, other)), ("NotHere",))

    def test_laid_over_refuses(self):
        wrong = [None, 3, (), (0,), [0, 1], (0, 1, 0), (6, 0), (-1, 0), (100, 0), (0, 2), (0, -1), "01",
                 (0, True), (False, 0), (0, "1"), (None, 0), (0, None), ((0,), 0)]
        for thing in wrong:
            self.assertEqual(told_error(laid_over, TREFOIL, thing, (0, 0)), ("BadArc",), thing)
            self.assertEqual(told_error(laid_over, TREFOIL, (0, 0), thing), ("BadArc",), thing)
        self.assertEqual(told_error(laid_over, RINGS, (0, 0), (1, 0)), ("BadArc",))
        self.assertEqual(told_error(laid_over, MANY, (0, 0), (0, 0)), ("NotHere",))

    def test_laid_over_up_to_20_crossings(self):
        for drawing, told in ((NINETEEN, ("TooMany", 20)), (MANY, ("TooMany", 20)),
                              (closed_braid(3, [1, -2] * 9), None)):
            over = (0, 0)
            under = [side for side in sides(drawing)
                     if side != over and looked_at(drawing, side) == looked_at(drawing, over)][0]
            self.assertEqual(told_error(laid_over, drawing, over, under), told)

    def test_pulled_off(self):
        self.assertEqual(pulled_off(closed_braid(2, [1, -1]), 0, 1), Drawing([], 2))
        self.assertEqual(pulled_off(closed_braid(2, [-1, 1]), 1, 0), Drawing([], 2))
        self.assertEqual(pulled_off(LOOSE, 0, 1), RINGS)
        self.assertTrue(alike(pulled_off(MIXED, 0, 1), Drawing(KINK.crossings, 2)))
        self.assertTrue(alike(pulled_off(closed_braid(2, [1, 1, -1, 1, 1]), 1, 2), TREFOIL))
        self.assertTrue(alike(pulled_off(closed_braid(2, [-1, 1, 1, 1, 1]), 4, 0), TREFOIL))

    def test_pulled_off_refuses(self):
        for thing in (-1, 3, 99) + NO_NUMBERS:
            self.assertEqual(told_error(pulled_off, TREFOIL, thing, 1), ("BadCrossing",), thing)
            self.assertEqual(told_error(pulled_off, TREFOIL, 0, thing), ("BadCrossing",), thing)
        self.assertEqual(told_error(pulled_off, TREFOIL, 1, 1), ("BadCrossing",))
        for one, other in itertools.permutations(range(3), 2):
            self.assertEqual(told_error(pulled_off, TREFOIL, one, other), ("NotHere",))
        far = closed_braid(3, [1, 2, 1, 2])
        for one, other in itertools.permutations(range(4), 2):
            self.assertEqual(told_error(pulled_off, far, one, other), ("NotHere",))
        apart = closed_braid(2, [1, 1, 1, -1])
        self.assertEqual(told_error(pulled_off, apart, 1, 3), ("NotHere",))
        self.assertEqual(told_error(pulled_off, apart, 0, 1), ("NotHere",))

    def test_pulled_off_up_to_8_rings(self):
        rows = closed_braid(2, [1, -1]).crossings
        self.assertEqual(pulled_off(Drawing(rows, 6), 0, 1), Drawing([], 8))
        self.assertEqual(told_error(pulled_off, Drawing(rows, 7), 0, 1), ("TooMany", 8))
        self.assertEqual(told_error(pulled_off, Drawing(rows, 8), 0, 1), ("TooMany", 8))
        self.assertEqual(told_error(pulled_off, Drawing(HOPF.crossings, 8), 0, 1), ("NotHere",))

    def test_pulled_off_just_where_a_face_lets(self):
        for drawing in SAMPLES + tuple(pair[1] for seed in range(6) for pair in walk(MIXED, 4, 6, seed)):
            for one, other in itertools.permutations(range(len(drawing.crossings)), 2):
                told = told_error(pulled_off, drawing, one, other)
                self.assertEqual(told, None if lies_over(drawing, one, other) else ("NotHere",))


def lies_over(drawing, one, other):
    """Whether a face of two corners, at these crossings, has an arc that goes over at both ends."""
    for face in faces(drawing):
        if len(face) == 2 and {index for index, _ in face} == {one, other}:
            for arc in drawing.arcs:
                at = [(index, place) for index, crossing in enumerate(drawing.crossings)
                      for place, end in enumerate(ends_of(crossing)) if end[0] == arc]
                round_about = {(index, place) for index, corner in face for place in (corner, (corner + 1) % 4)}
                if set(at) <= round_about and all(place % 2 == 1 for _, place in at):
                    return True
    return False


class ThirdMoveTest(unittest.TestCase):
    def test_by_hand(self):
        for one, other in (([1, 2, 1], [2, 1, 2]), ([-1, -2, -1], [-2, -1, -2]), ([1, 2, -1], [-2, 1, 2]),
                           ([-1, 2, 1], [2, 1, -2]), ([1, -2, -1], [-2, -1, 2]), ([-1, -2, 1], [2, -1, -2])):
            for more in ([], [1], [-2, 1], [2, 2]):
                drawing, goal = closed_braid(3, one + more), closed_braid(3, other + more)
                for near, far in ((drawing, goal), (goal, drawing)):
                    made = [told for move, told in moves_let(near) if move[0] == "slid"]
                    self.assertTrue(any(alike(told, far) for told in made), (one, more))

    def test_just_at_faces_with_an_upper_and_a_lower_strand(self):
        seen = set()
        for drawing in SAMPLES + (closed_braid(3, [1, 2, 1]), closed_braid(3, [1, -2, 1]),
                                  closed_braid(4, [1, 2, 1, 3, -2])):
            for index, face in enumerate(faces(drawing)):
                told = told_error(slid, drawing, index)
                three = len(face) == 3 and len({at for at, _ in face}) == 3
                self.assertEqual(told, None if three and self.levels(face) == [0, 1, 2] else ("NotHere",))
                seen.add((three, told))
        self.assertEqual(seen, {(True, None), (True, ("NotHere",)), (False, ("NotHere",))})

    def test_three_corners_at_two_crossings(self):
        drawing = Drawing([(1, 3, 1, 1, 0), (1, 2, 3, 0, 2)], 0)
        self.assertEqual(faces(drawing)[:2], [((0, 0), (1, 3), (1, 1)), ((0, 1), (0, 3), (1, 2))])
        for index in range(len(faces(drawing))):
            self.assertEqual(told_error(slid, drawing, index), ("NotHere",))

    def levels(self, face):
        """How many times each of the three strands goes over."""
        found = []
        for (_, place), (_, next_place) in zip(face, face[1:] + face[:1]):
            found.append((place + 1) % 2 + next_place % 2)
        return sorted(found)

    def test_slid_back(self):
        for drawing in (closed_braid(3, [1, 2, 1]), closed_braid(3, [1, 2, 1, 2]), closed_braid(3, [1, 2, -1, 2]),
                        closed_braid(4, [1, 2, 1, 3, -2])):
            for move, told in moves_let(drawing):
                if move[0] == "slid":
                    self.assertEqual(sorted(row[0] for row in told.crossings),
                                     sorted(row[0] for row in drawing.crossings))
                    back = [far for again, far in moves_let(told) if again[0] == "slid"]
                    self.assertTrue(any(alike(far, drawing) for far in back))

    def test_faces_round_about(self):
        # The three faces beside the edges lose a corner, the three at the corners get one more.
        for drawing in (closed_braid(3, [1, 2, 1]), closed_braid(3, [1, 2, -1, 2]), closed_braid(4, [1, 2, 1, 3, -2])):
            for index, face in enumerate(faces(drawing)):
                if told_error(slid, drawing, index) is None:
                    sizes = {corner: at for at, row in enumerate(faces(drawing)) for corner in row}
                    grown = [len(row) for row in faces(drawing)]
                    for at, place in face:
                        grown[sizes[(at, (place + 2) % 4)]] += 1
                        grown[sizes[(at, (place + 1) % 4)]] -= 1
                    self.assertEqual(sorted(len(row) for row in faces(slid(drawing, index))), sorted(grown))

    def test_refuses(self):
        for thing in (-1, 5, 99) + NO_NUMBERS:
            self.assertEqual(told_error(slid, TREFOIL, thing), ("BadNumber", "face"), thing)
        self.assertEqual(told_error(slid, RINGS, 0), ("BadNumber", "face"))
        for index in range(5):
            self.assertEqual(told_error(slid, TREFOIL, index), ("NotHere",))
        for index in range(len(faces(BORROMEAN))):
            self.assertEqual(told_error(slid, BORROMEAN, index), ("NotHere",))


class FactsTest(unittest.TestCase):
    def test_what_stays(self):
        words = set()
        for drawing in SMALL:
            for move, told in moves_let(drawing):
                self.check_kept(drawing, move, told)
                words.add(move[0])
        for seed in range(12):
            drawing = closed_braid(3, [1, 2, -1])
            for move, told in walk(drawing, 8, 7, seed):
                self.check_kept(drawing, move, told)
                words.add(move[0])
                drawing = told
        self.assertEqual(len(words), 6)

    def check_kept(self, drawing, move, told):
        self.assertEqual(way_count(told), way_count(drawing))
        self.assertEqual(linkings(told), linkings(drawing))
        more = signs(told) - signs(drawing)
        if move[0] in ("kinked", "ring_kinked"):
            self.assertEqual(more, move[2] if move[0] == "kinked" else move[1])
        elif move[0] == "unkinked":
            self.assertEqual(more, -drawing.crossings[move[1]][0])
        else:
            self.assertEqual(more, 0)

    def test_each_move_is_undone_by_another_one(self):
        back = {"kinked": "unkinked", "unkinked": "kinked ring_kinked", "ring_kinked": "unkinked",
                "laid_over": "pulled_off", "pulled_off": "laid_over", "slid": "slid"}
        for drawing in (KINK, Drawing(KINK.crossings, 1), closed_braid(3, [1, 2, -1]), closed_braid(2, [1, -1, 1])):
            for move, told in moves_let(drawing):
                if told.rings == drawing.rings or move[0] != "pulled_off":
                    undone = [far for again, far in moves_let(told) if again[0] in back[move[0]]]
                    self.assertTrue(any(alike(far, drawing) for far in undone), move)

    def test_nothing_is_changed(self):
        rows = TREFOIL.crossings
        for drawing in (TREFOIL, closed_braid(3, [1, 2, 1])):
            kept = drawing.crossings
            moves_let(drawing)
            self.assertEqual(drawing, Drawing(kept, 0))
        self.assertEqual(TREFOIL.crossings, rows)

    def test_no_drawing(self):
        for thing in NO_DRAWINGS:
            for call, many in ((kinked, 3), (ring_kinked, 1), (unkinked, 1), (laid_over, 2), (pulled_off, 2),
                               (slid, 1)):
                self.assertEqual(told_error(call, thing, *[None] * many), ("BadDrawing", None))


if __name__ == "__main__":
    unittest.main()
