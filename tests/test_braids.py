import unittest

from ringcubes.braids import closed_braid
from ringcubes.drawings import Drawing, linking, pieces, way_count, ways
from ringcubes.faces import faces
from ringcubes.views import alike, mirrored, turned_about
from tests.samples import KINK, LEFT, NO_NUMBERS, RING, TREFOIL, told_error


def plain_braid(strands, word):
    """The closed braid by the words of the document, arcs told by pairs (strand place, level)."""
    many = len(word)
    levels = {place: [at for at, letter in enumerate(word) if place in (abs(letter), abs(letter) + 1)]
              for place in range(1, strands + 1)}

    def arc_behind(place, at):
        return (place, at)

    def arc_ahead(place, at):
        rows = levels[place]
        return (place, rows[rows.index(at) - 1])

    rows = []
    for at in range(many):
        left, right = abs(word[at]), abs(word[at]) + 1
        up_right = (arc_ahead(left, at), arc_behind(right, at))
        up_left = (arc_ahead(right, at), arc_behind(left, at))
        over, under = (up_right, up_left) if word[at] > 0 else (up_left, up_right)
        rows.append((1 if word[at] > 0 else -1,) + under + over)
    names = {}
    for row in rows:
        for arc in row[1:]:
            names.setdefault(arc, len(names))
    rings = len([place for place in levels if not levels[place]])
    return [(row[0],) + tuple(names[arc] for arc in row[1:]) for row in rows], rings


class BraidTest(unittest.TestCase):
    def test_crossings_in_the_sequence_of_the_word(self):
        for strands, word in ((1, []), (8, []), (2, [1]), (2, [-1]), (2, [1, 1]), (3, [1, 2]), (3, [2]), (3, [-2, 1]),
                              (4, [1, -2, 3]), (4, [3, -3, 3, 1]), (8, [7, -1, 4]), (3, [1, -2] * 10),
                              (8, [1, 2, 3, 4, 5, 6, 7, -7, -6, -5, -4, -3, -2, -1, 1, 3, 5, 7, -2, -4]),
                              (5, [2, -3, 2]), (4, [1, 2, 3, -2, 1, 3])):
            drawing = closed_braid(strands, word)
            rows, rings = plain_braid(strands, word)
            self.assertEqual([row[0] for row in drawing.crossings], [1 if letter > 0 else -1 for letter in word])
            self.assertEqual(drawing.rings, rings)
            names = {}
            for row, goal in zip(rows, drawing.crossings):
                for arc, name in zip(row[1:], goal[1:]):
                    self.assertEqual(names.setdefault(arc, name), name)
            self.assertEqual(len(set(names.values())), len(names))

    def test_by_hand(self):
        self.assertTrue(alike(closed_braid(2, [1]), KINK))
        self.assertTrue(alike(closed_braid(2, [1, 1, 1]), TREFOIL))
        self.assertTrue(alike(closed_braid(2, [-1, -1, -1]), mirrored(TREFOIL)))
        self.assertEqual(closed_braid(1, []), RING)
        self.assertEqual(closed_braid(8, []), Drawing([], 8))
        self.assertEqual(way_count(LEFT), 1)

    def test_the_left_strand_goes_over_to_the_right(self):
        # In braid 1, 2 the strand from the left goes over twice: its way through both crossings tells it.
        drawing = closed_braid(3, [1, 2])
        first, second = drawing.crossings
        self.assertEqual(first[4], second[3])
        drawing = closed_braid(3, [-1, -2])
        first, second = drawing.crossings
        self.assertEqual(first[2], second[1])
        drawing = closed_braid(3, [2, 1])
        first, second = drawing.crossings
        self.assertEqual(first[2], second[1])

    def test_strands_that_cross_no_other_one(self):
        for strands in range(1, 9):
            self.assertEqual(closed_braid(strands, []).rings, strands)
        self.assertEqual(closed_braid(8, [3]).rings, 6)
        self.assertEqual(closed_braid(8, [3, -5]).rings, 4)
        self.assertEqual(closed_braid(3, [2, 2]).rings, 1)
        self.assertEqual(len(ways(closed_braid(4, [2, 2]))), 2)

    def test_words_of_20_numbers(self):
        drawing = closed_braid(2, [1] * 20)
        self.assertEqual((len(drawing.crossings), linking(drawing, 0, 1)), (20, 10))
        self.assertEqual(len(pieces(closed_braid(8, [1, 3, 5, 7] * 5))), 4)
        self.assertEqual(len(faces(closed_braid(4, (1, 2, 3, -1) * 5))), 22)
        self.assertEqual(closed_braid(2, (1, 1, 1)), closed_braid(word=[1, 1, 1], strands=2))

    def test_wrong_strands(self):
        for thing in (0, -1, 9, 100) + NO_NUMBERS:
            self.assertEqual(told_error(closed_braid, thing, []), ("BadNumber", "strands"), thing)
            self.assertEqual(told_error(closed_braid, thing, None), ("BadNumber", "strands"), thing)

    def test_wrong_words(self):
        for thing in (None, 1, True, "1", {1: 1}, {1}, iter([1]), [0], [1, 0], [2], [-2], [3], [1] * 21, (1,) * 21, [[1]]):
            self.assertEqual(told_error(closed_braid, 2, thing), ("BadBraid",), thing)
        for thing in NO_NUMBERS:
            self.assertEqual(told_error(closed_braid, 3, [2, thing]), ("BadBraid",), thing)
        self.assertEqual(told_error(closed_braid, 1, [1]), ("BadBraid",))
        self.assertEqual(told_error(closed_braid, 1, [-1]), ("BadBraid",))
        for letter in range(-7, 8):
            told = told_error(closed_braid, 8, [letter])
            self.assertEqual(told, ("BadBraid",) if letter == 0 else None)
        for letter in (8, -8, 9):
            self.assertEqual(told_error(closed_braid, 8, [letter]), ("BadBraid",))

    def test_nothing_is_changed(self):
        word = [1, -1, 1]
        closed_braid(2, word)
        self.assertEqual(word, [1, -1, 1])

    def test_read_backwards(self):
        for word in ([1, 1, 2], [1, -2, 2, 1], [1, 2, -3]):
            self.assertTrue(alike(turned_about(closed_braid(4, word)), closed_braid(4, word[::-1]))
                            or len(set(word)) > 1)


if __name__ == "__main__":
    unittest.main()
