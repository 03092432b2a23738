import random
import unittest
from fractions import Fraction

from ringcubes.alternates import alternated
from ringcubes.braids import closed_braid
from ringcubes.drawings import Drawing, linking, pieces, way_count, ways
from ringcubes.faces import faces, shades
from ringcubes.makings import side_by_side
from ringcubes.moves import kinked
from ringcubes.partings import exchanged
from ringcubes.shadeforms import determinant, form_sign, shade_form, signature
from ringcubes.views import in_order, mirrored, turned_about, way_turned
from tests.samples import (BORROMEAN, EIGHT, HANDS, HOPF, KINK, KINK_BACK, LEFT, LOOSE, NO_DRAWINGS, NO_NUMBERS,
                           NOT_BY_TURNS, NOTHING, RING, RINGS, SAMPLES, TREFOIL, TWO_PIECES, same_kinds, told_error)
from tests.test_longs import by_elimination
from tests.test_longs import determinant as determinant_of_strands
from tests.test_views import shuffled
from tests.walks import walk

TWENTY = closed_braid(3, [1, -2] * 10)
ONE_WAY = (KINK, TREFOIL, LEFT, EIGHT, closed_braid(2, [1] * 5), closed_braid(3, [1, 2] * 4),
           closed_braid(3, [1, 1, 1, -2, 1, -2]), closed_braid(4, [1, -2, 3, -2, 1, -2, 3]), closed_braid(3, [1, 2] * 5),
           closed_braid(3, [1, 2] * 10), closed_braid(2, [1] * 19))
MANY = SAMPLES + ONE_WAY + (way_turned(HOPF, 0), way_turned(HANDS, 1), way_turned(BORROMEAN, 2), TWENTY,
                            side_by_side(TREFOIL, LEFT), side_by_side(HOPF, KINK_BACK), Drawing(EIGHT.crossings, 1))
NO_FORMS = NO_NUMBERS + ({0: [0]}, [1], "1", [[1, 2]], [[1], [2]], [[1, 2], [2]], [[1, 2], [3, 4]], [[]], [()],
                         [[True]], [[1, True], [True, 1]], [[1, 0], [False, 1]], [["1"]], [[None]], [[1.0]], [[1], 2],
                         [[0, 1, 2], [1, 0, 3], [2, 4, 0]], [[1, 2], {0: 2, 1: 1}], [[0] * 21] * 21, [[0] * 20] * 21)


def plain_form(drawing, shade):
    """The form of a shade by the words of the document."""
    dark = shades(drawing)
    rows = dark if shade == 0 else [face for face in faces(drawing) if face not in dark]
    corners = {}
    for at, face in enumerate(rows):
        for index, place in face:
            corners.setdefault(index, []).append((at, place))
    tones = {index: 1 if both[0][1] % 2 == 0 else -1 for index, both in corners.items()}
    least = [next(at for at, face in enumerate(rows) if face[0][0] in piece) for piece in pieces(drawing)]
    kept = [at for at in range(len(rows)) if at not in least]
    form = []
    for at in kept:
        form.append([])
        for other in kept:
            number = 0
            for index, both in corners.items():
                on = {face for face, _ in both}
                if at == other and len(on) == 2 and at in on:
                    number += tones[index]
                if at != other and on == {at, other}:
                    number -= tones[index]
            form[-1].append(number)
    return form, tones


def sign_changes(numbers):
    """How often numbers that are not 0 change their sign."""
    signs = [number > 0 for number in numbers if number]
    return sum(1 for one, other in zip(signs, signs[1:]) if one != other)


def plain_sign(rows):
    """How many more roots of the polynomial of a table are above 0 than below: all are real, so signs tell."""
    many = len(rows)
    powers, numbers = [[Fraction(0)] * many for _ in range(many)], [Fraction(1)]
    for step in range(1, many + 1):
        powers = [[sum(rows[i][j] * powers[j][k] for j in range(many)) + numbers[-1] * rows[i][k] for k in range(many)]
                  for i in range(many)]
        numbers.append(-sum(powers[i][i] for i in range(many)) / step)
    other = [number * (-1) ** at for at, number in enumerate(numbers)]
    return sign_changes(numbers) - sign_changes(other)


def some_form(chance, many):
    """A table of small numbers, alike across the diagonal, often with noughts on it."""
    rows = [[0] * many for _ in range(many)]
    for i in range(many):
        for k in range(i + 1):
            number = chance.choice((0, 0, 0, 1, -1, 2, -3))
            rows[i][k] = rows[k][i] = number if i != k else number * chance.choice((0, 1))
    return rows


class ShadeFormTest(unittest.TestCase):
    def test_by_hand(self):
        drawing = closed_braid(2, [1, 1, 1])
        self.assertEqual([len(face) for face in shades(drawing)], [3, 3])
        self.assertTrue(same_kinds(shade_form(drawing, 0), ((3,),)))
        self.assertTrue(same_kinds(shade_form(drawing, 1), ((-2, 1), (1, -2))))
        self.assertTrue(same_kinds(shade_form(RINGS, 0), ()))
        self.assertTrue(same_kinds(shade_form(NOTHING, 1), ()))
        # The two kinks have one dark face twice, or two of them, at their crossing.
        self.assertEqual([len(shade_form(KINK, shade)) for shade in (0, 1)].count(0), 1)
        self.assertEqual(sorted(shade_form(KINK, shade) for shade in (0, 1)), [(), ((shade_tone(KINK),),)])

    def test_by_the_words_of_the_document(self):
        for drawing in MANY:
            for shade in (0, 1):
                goal = tuple(tuple(row) for row in plain_form(drawing, shade)[0])
                self.assertTrue(same_kinds(shade_form(drawing, shade), goal))

    def test_sizes(self):
        for drawing in MANY:
            rows = [shade_form(drawing, shade) for shade in (0, 1)]
            # As many faces of both shades as crossings and two for each piece, less one of each shade.
            self.assertEqual(len(rows[0]) + len(rows[1]), len(drawing.crossings))

    def test_refuses(self):
        for thing in NO_DRAWINGS:
            self.assertEqual(told_error(shade_form, thing, 5), ("BadDrawing", None))
        for thing in (-1, 2) + NO_NUMBERS:
            self.assertEqual(told_error(shade_form, TREFOIL, thing), ("BadNumber", "shade"), thing)
            self.assertEqual(told_error(shade_form, NOTHING, thing), ("BadNumber", "shade"), thing)
        self.assertEqual(shade_form(shade=0, drawing=TREFOIL), ((3,),))


def shade_tone(drawing):
    """The tone of the only crossing for the shade with two faces."""
    for shade in (0, 1):
        form, tones = plain_form(drawing, shade)
        if form:
            return tones[0]
    return None


class FormSignTest(unittest.TestCase):
    def test_by_hand(self):
        for rows, told in (([], 0), ((), 0), ([[0]], 0), ([[5]], 1), ([(-1,)], -1), ([[0, 1], [1, 0]], 0),
                           ([[0, 0], [0, 0]], 0), ([[1, 2], [2, 1]], 0), ([[2, 1], [1, 2]], 2), ([[-2, 1], [1, -2]], -2),
                           ([[0, 1, 0], [1, 0, 0], [0, 0, 7]], 1), ([[0, 1, 1], [1, 0, 1], [1, 1, 0]], -1),
                           ([[0, -1, -1], [-1, 0, -1], [-1, -1, 0]], 1), ([[1, 1], [1, 1]], 1),
                           ([[0, 3, 0, 0], [3, 0, 0, 0], [0, 0, 0, -2], [0, 0, -2, 0]], 0),
                           ([[0, 2], [2, -9]], 0), ([[0, 0], [0, -9]], -1)):
            self.assertTrue(same_kinds(form_sign(rows), told), rows)

    def test_by_the_roots(self):
        chance = random.Random(3)
        for many in (1, 2, 3, 4, 5, 6, 8):
            for _ in range(30):
                rows = some_form(chance, many)
                self.assertEqual(form_sign(rows), plain_sign(rows), rows)

    def test_same_for_any_squares(self):
        chance = random.Random(4)
        for _ in range(20):
            rows = some_form(chance, 7)
            told = form_sign(rows)
            for _ in range(6):
                i, k, times = chance.randrange(7), chance.randrange(7), chance.choice((-2, -1, 1, 3))
                if i != k:
                    rows[i] = [a + times * b for a, b in zip(rows[i], rows[k])]
                    for row in rows:
                        row[i] += times * row[k]
            self.assertEqual(form_sign(rows), told)

    def test_great_ones(self):
        chance = random.Random(5)
        rows = some_form(chance, 20)
        self.assertEqual(form_sign(rows), plain_sign(rows))
        self.assertEqual(form_sign([[10 ** 40 * number for number in row] for row in rows]), plain_sign(rows))
        self.assertEqual(form_sign([[0] * 20] * 20), 0)
        self.assertEqual(form_sign([[int(i + k == 19) for k in range(20)] for i in range(20)]), 0)
        self.assertEqual(form_sign([[-2 * int(i == k) for k in range(20)] for i in range(20)]), -20)

    def test_no_forms(self):
        for thing in NO_FORMS:
            self.assertEqual(told_error(form_sign, thing), ("BadForm",), thing)
        rows = [[0, 1], [1, 0]]
        self.assertEqual(form_sign(rows=rows), 0)
        self.assertEqual(rows, [[0, 1], [1, 0]])


class SignatureTest(unittest.TestCase):
    def test_by_hand(self):
        for drawing, told in ((closed_braid(2, [1, 1, 1]), -2), (LEFT, 2), (EIGHT, 0), (RINGS, 0), (NOTHING, 0),
                              (KINK, 0), (KINK_BACK, 0), (HOPF, -1), (way_turned(HOPF, 0), 1), (BORROMEAN, 0),
                              (closed_braid(2, [1] * 5), -4), (closed_braid(2, [1] * 19), -18),
                              (closed_braid(3, [1, 2] * 4), -6), (closed_braid(3, [1, 2] * 5), -8)):
            self.assertTrue(same_kinds(signature(drawing), told))

    def test_both_shades(self):
        for drawing in MANY + tuple(goal for _, goal in walk(TWO_PIECES, 5, 12, 1)):
            found = []
            for shade in (0, 1):
                tones = plain_form(drawing, shade)[1]
                total = sum(row[0] for row in drawing.crossings) + sum(tones.values())
                self.assertEqual(total % 2, 0)
                found.append(form_sign(shade_form(drawing, shade)) - total // 2)
            self.assertEqual(found, [signature(drawing)] * 2)

    def test_moves_keep_it(self):
        for seed, drawing in enumerate(SAMPLES[1:] + ONE_WAY[:6]):
            told = (signature(drawing), determinant(drawing))
            for _, goal in walk(drawing, 8, 14, seed):
                self.assertEqual((signature(goal), determinant(goal)), told)

    def test_views(self):
        for seed, drawing in enumerate(MANY):
            told = signature(drawing)
            self.assertEqual(signature(mirrored(drawing)), -told)
            self.assertEqual(signature(turned_about(drawing)), told)
            self.assertEqual(signature(shuffled(drawing, seed)), told)
            self.assertEqual(signature(in_order(drawing, list(range(len(drawing.crossings)))[::-1])), told)
            self.assertEqual(signature(side_by_side(drawing, NOTHING)), told)

    def test_side_by_side(self):
        for one in (TREFOIL, HOPF, KINK_BACK, EIGHT, RINGS):
            for other in (TREFOIL, LEFT, BORROMEAN, RING):
                self.assertEqual(signature(side_by_side(one, other)), signature(one) + signature(other))

    def test_ways_turned(self):
        for drawing in MANY:
            many = len(ways(drawing))
            for index in range(many):
                links = sum(linking(drawing, index, other) for other in range(many) if other != index)
                self.assertEqual(signature(way_turned(drawing, index)), signature(drawing) + 2 * links)

    def test_crossings_exchanged(self):
        for drawing in MANY:
            for index, row in enumerate(drawing.crossings):
                if row[0] == 1:
                    self.assertIn(signature(exchanged(drawing, index)) - signature(drawing), (0, 1, 2))

    def test_alternate(self):
        for drawing in MANY:
            for parity in (0, 1):
                told = alternated(drawing, parity)
                self.assertEqual(signature(told), len(shades(told)) - len(pieces(told)) - told.plus)


class DeterminantTest(unittest.TestCase):
    def test_by_hand(self):
        for drawing, told in ((closed_braid(2, [1, 1, 1]), 3), (LEFT, 3), (EIGHT, 5), (NOTHING, 1), (RING, 1), (RINGS, 0),
                              (KINK, 1), (KINK_BACK, 0), (HOPF, 2), (BORROMEAN, 16), (TWO_PIECES, 0), (LOOSE, 0),
                              (Drawing(TREFOIL.crossings, 1), 0), (side_by_side(TREFOIL, TREFOIL), 0),
                              (closed_braid(2, [1] * 20), 20), (closed_braid(2, [1, -1]), 0),
                              (closed_braid(3, [1, 2] * 5), 1), (closed_braid(3, [1, 2] * 4), 3)):
            self.assertTrue(same_kinds(determinant(drawing), told))

    def test_both_shades(self):
        for drawing in MANY:
            if len(pieces(drawing)) + drawing.rings == 1:
                for shade in (0, 1):
                    rows = [list(row) for row in shade_form(drawing, shade)]
                    self.assertEqual(abs(by_elimination(rows)), determinant(drawing))

    def test_by_strands(self):
        for drawing in ONE_WAY:
            self.assertEqual(determinant(drawing), determinant_of_strands(drawing))

    def test_odd_and_even(self):
        for drawing in MANY + tuple(goal for _, goal in walk(NOT_BY_TURNS, 5, 10, 2)):
            if way_count(drawing) == 1:
                self.assertEqual(determinant(drawing) % 2, 1)
                self.assertEqual(determinant(drawing) % 4 == 1, signature(drawing) % 4 == 0)
            elif way_count(drawing) > 1:
                self.assertEqual(determinant(drawing) % 2, 0)

    def test_refuses(self):
        for thing in NO_DRAWINGS:
            self.assertEqual(told_error(signature, thing), ("BadDrawing", None))
            self.assertEqual(told_error(determinant, thing), ("BadDrawing", None))
        self.assertEqual((signature(drawing=TREFOIL), determinant(drawing=TREFOIL)), (-2, 3))
        self.assertEqual(determinant(kinked(HOPF, 0, 1, 0)), 2)


if __name__ == "__main__":
    unittest.main()
