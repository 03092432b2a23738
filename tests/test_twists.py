import unittest

from ringcubes.braids import closed_braid
from ringcubes.gluing import patch_numbers
from ringcubes.joins import patch_tied
from ringcubes.patches import Patch, drawing_of
from ringcubes.twists import twist_row
from ringcubes.views import alike
from tests.patchworks import braid_patch, is_same_but_names
from tests.samples import NO_NUMBERS, told_error


class TwistTest(unittest.TestCase):
    def test_by_hand(self):
        self.assertTrue(is_same_but_names(twist_row(0), Patch([], [(0, 1), (1, 1), (1, -1), (0, -1)], 0)))
        # The strand from the lower left goes over, to the upper right, if the sign is 1.
        self.assertTrue(is_same_but_names(twist_row(1), Patch([(1, 1, 2, 0, 3)], [(0, 1), (1, 1), (3, -1), (2, -1)], 0)))
        self.assertTrue(is_same_but_names(twist_row(-1), Patch([(-1, 0, 3, 1, 2)], [(0, 1), (1, 1), (3, -1), (2, -1)], 0)))

    def test_all(self):
        for many in range(-20, 21):
            patch = twist_row(many)
            self.assertIsInstance(patch, Patch)
            self.assertEqual([row[0] for row in patch.crossings], [1 if many > 0 else -1] * abs(many))
            self.assertEqual([way for _, way in patch.rim], [1, 1, -1, -1])
            self.assertEqual(patch.rings, 0)
            letter = 1 if many > 0 else -1
            self.assertTrue(is_same_but_names(patch, braid_patch(2, [letter] * abs(many))))

    def test_from_below(self):
        for many in (2, 5, -3, 20, -20):
            patch = twist_row(many)
            below = {patch.rim[0][0], patch.rim[1][0]}
            for _, under_in, under_out, over_in, over_out in patch.crossings:
                self.assertEqual({under_in, over_in}, below)
                below = {under_out, over_out}
            self.assertEqual({patch.rim[2][0], patch.rim[3][0]}, below)

    def test_closed(self):
        for many in (0, 1, 2, 3, -4, 7, 20):
            patch = patch_tied(patch_tied(twist_row(many), 1), 0)
            self.assertTrue(alike(drawing_of(patch), closed_braid(2, [1 if many > 0 else -1] * abs(many))))

    def test_least_numbers(self):
        for prime in (2, 3):
            for many in range(1, 21):
                told = {(0, many, (3, 2, 1, 0)): 1}
                told.update({(k, many + 2 * k - 1, (1, 0, 3, 2)): 1 for k in range(1, many + 1)})
                self.assertEqual(patch_numbers(prime, twist_row(many)), told)
                back = {(-height, -weight, mates): 1 for height, weight, mates in told}
                self.assertEqual(patch_numbers(prime, twist_row(-many)), back)
            self.assertEqual(patch_numbers(prime, twist_row(0)), {(0, 0, (3, 2, 1, 0)): 1})

    def test_refuses(self):
        for thing in (-21, 21, 99, -99, 10 ** 30) + NO_NUMBERS:
            self.assertEqual(told_error(twist_row, thing), ("BadNumber", "many"), thing)
        self.assertEqual(twist_row(many=3), twist_row(3))


if __name__ == "__main__":
    unittest.main()
