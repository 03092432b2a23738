import unittest

from ringcubes.braids import closed_braid
from ringcubes.drawings import Drawing, pieces
from ringcubes.faces import faces, shades
from tests.samples import (HOPF, KINK, NO_DRAWINGS, NOTHING, RINGS, SAMPLES, TREFOIL, TWO_PIECES, ends_of, same_kinds,
                           told_error)


def follower(drawing, corner):
    """The corner that follows, by the words of the document."""
    index, place = corner
    arc, goes_in = ends_of(drawing.crossings[index])[(place + 1) % 4]
    for far, crossing in enumerate(drawing.crossings):
        for far_place, end in enumerate(ends_of(crossing)):
            if end == (arc, not goes_in):
                return far, far_place
    return None


class FacesTest(unittest.TestCase):
    def test_by_hand(self):
        for drawing, told in (
                (NOTHING, []), (RINGS, []),
                (KINK, [((0, 0),), ((0, 1), (0, 3)), ((0, 2),)]),
                (HOPF, [((0, 0), (1, 0)), ((0, 1), (1, 3)), ((0, 2), (1, 2)), ((0, 3), (1, 1))]),
                (TREFOIL, [((0, 0), (1, 0), (2, 0)), ((0, 1), (1, 3)), ((0, 2), (2, 2), (1, 2)),
                           ((0, 3), (2, 1)), ((1, 1), (2, 3))])):
            self.assertTrue(same_kinds(faces(drawing), told), faces(drawing))

    def test_the_other_sign_goes_round_the_other_way(self):
        # Places 0 to 3 of sign -1: under_in 0, over_in 1, under_out 1, over_out 0.
        drawing = Drawing([(-1, 0, 1, 1, 0)], 0)
        self.assertEqual(faces(drawing), [((0, 0), (0, 2)), ((0, 1),), ((0, 3),)])
        self.assertEqual(shades(drawing), [((0, 0), (0, 2))])

    def test_corners_follow_one_another(self):
        for drawing in SAMPLES:
            rows = faces(drawing)
            self.assertEqual(rows, sorted(rows))
            corners = sorted(corner for face in rows for corner in face)
            self.assertEqual(corners, [(index, place) for index in range(len(drawing.crossings))
                                       for place in range(4)])
            for face in rows:
                self.assertEqual(face[0], min(face))
                for corner, behind in zip(face, face[1:] + face[:1]):
                    self.assertEqual(follower(drawing, corner), behind)

    def test_each_piece_of_n_crossings_has_two_faces_more(self):
        for drawing in SAMPLES + (closed_braid(8, [1, -3, 5, -7, 1, 5, 5]), closed_braid(3, [1, -2] * 10)):
            rows = faces(drawing)
            for piece in pieces(drawing):
                own = [face for face in rows if face[0][0] in piece]
                self.assertEqual(len(own), len(piece) + 2)
                self.assertEqual(len([face for face in rows if any(index in piece for index, _ in face)]), len(own))

    def test_shades_by_hand(self):
        for drawing, told in (
                (NOTHING, []), (RINGS, []),
                (KINK, [((0, 0),), ((0, 2),)]),
                (TREFOIL, [((0, 0), (1, 0), (2, 0)), ((0, 2), (2, 2), (1, 2))]),
                (HOPF, [((0, 0), (1, 0)), ((0, 2), (1, 2))])):
            self.assertTrue(same_kinds(shades(drawing), told), shades(drawing))

    def test_just_every_second_corner_is_dark(self):
        for drawing in SAMPLES + (closed_braid(8, [1, -3, 5, -7, 1, 5, 5]), closed_braid(4, [1, -2, 3, 2, -1])):
            dark = [corner for face in shades(drawing) for corner in face]
            for index in range(len(drawing.crossings)):
                own = [(index, place) in dark for place in range(4)]
                self.assertIn(own, ([True, False, True, False], [False, True, False, True]))
            for piece in pieces(drawing):
                self.assertIn((piece[0], 0), dark)
            self.assertEqual(shades(drawing), [face for face in faces(drawing) if face[0] in dark])
            self.assertTrue(all(set(face) <= set(dark) for face in shades(drawing)))

    def test_several_pieces(self):
        dark = shades(TWO_PIECES)
        self.assertIn((0, 0), dark[0])
        self.assertTrue(any((2, 0) in face for face in dark))
        both = Drawing(KINK.crossings + ((-1, 2, 3, 3, 2),), 1)
        self.assertEqual(faces(both), [((0, 0),), ((0, 1), (0, 3)), ((0, 2),), ((1, 0), (1, 2)), ((1, 1),), ((1, 3),)])
        self.assertEqual(shades(both), [((0, 0),), ((0, 2),), ((1, 0), (1, 2))])

    def test_new_lists_and_names(self):
        for call in (faces, shades):
            call(drawing=TREFOIL).clear()
            self.assertTrue(call(TREFOIL))

    def test_no_drawing(self):
        for thing in NO_DRAWINGS:
            for call in (faces, shades):
                self.assertEqual(told_error(call, thing), ("BadDrawing", None))


if __name__ == "__main__":
    unittest.main()
