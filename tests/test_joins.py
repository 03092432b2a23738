import unittest

from ringcubes.braids import closed_braid
from ringcubes.drawings import Drawing, way_count
from ringcubes.joins import patch_beside, patch_mirrored, patch_tied, patch_turned
from ringcubes.patches import Patch, drawing_of, patch_of
from ringcubes.views import alike, mirrored
from tests.patchworks import (BIGGER, CROSS, CROSS_BACK, EMPTY, KINKED, PATCHES, STRAND, braid_patch, is_same_but_names,
                              some_patch)
from tests.samples import HOPF, KINK, NO_NUMBERS, SAMPLES, TREFOIL, told_error
from tests.test_patches import NO_PATCHES

WIDE = patch_of(closed_braid(2, [1] * 20))
TWELVE = braid_patch(6, [])


def apart(patch):
    """A patch with names of arcs that no patch of the tests has."""
    names = {arc: 99 - at for at, arc in enumerate(patch.arcs)}
    rows = [(row[0],) + tuple(names[arc] for arc in row[1:]) for row in patch.crossings]
    return Patch(rows, [(names[arc], way) for arc, way in patch.rim], patch.rings)


def plain_tied(patch, place):
    """The parts of the patch with two rim ends joined: one arc gets the name of the other."""
    rim = list(patch.rim)
    follows = (place + 1) % len(rim)
    keep, lose = rim[place][0], rim[follows][0]
    rows = [(row[0],) + tuple(keep if arc == lose else arc for arc in row[1:]) for row in patch.crossings]
    rim = [(keep if arc == lose else arc, way) for at, (arc, way) in enumerate(rim) if at not in (place, follows)]
    return rows, rim, patch.rings + (keep == lose)


class BesideTest(unittest.TestCase):
    def test_by_hand(self):
        told = patch_beside(CROSS, CROSS_BACK)
        goal = Patch([(1, 0, 1, 2, 3), (-1, 4, 5, 6, 7)],
                     [(0, 1), (3, -1), (1, -1), (2, 1), (4, 1), (6, 1), (5, -1), (7, -1)], 0)
        self.assertTrue(is_same_but_names(told, goal))
        self.assertTrue(is_same_but_names(patch_beside(STRAND, STRAND), Patch([], [(0, 1), (0, -1), (1, 1), (1, -1)], 0)))
        self.assertEqual(patch_beside(EMPTY, EMPTY), EMPTY)

    def test_as_told(self):
        for seed, one in enumerate(PATCHES):
            for other in (PATCHES[seed * 7 % len(PATCHES)], PATCHES[seed * 11 % 19], one):
                if len(one.rim) + len(other.rim) <= 12:
                    far = apart(other)
                    goal = Patch(one.crossings + far.crossings, one.rim + far.rim, one.rings + other.rings)
                    told = patch_beside(one, other)
                    self.assertTrue(is_same_but_names(told, goal))
                    self.assertEqual((told.plus, told.minus), (one.plus + other.plus, one.minus + other.minus))

    def test_limits(self):
        many = Patch(CROSS.crossings, CROSS.rim, 5)
        twenty = patch_beside(patch_of(closed_braid(2, [1] * 19)), many)
        self.assertEqual((len(twenty.crossings), twenty.rings), (20, 5))
        full = patch_beside(WIDE, Patch(TWELVE.crossings, TWELVE.rim, 8))
        self.assertEqual((len(full.crossings), len(full.rim), full.rings), (20, 12, 8))
        self.assertEqual(told_error(patch_beside, full, many), ("TooMany", 20))
        self.assertEqual(told_error(patch_beside, WIDE, CROSS), ("TooMany", 20))
        self.assertEqual(told_error(patch_beside, TWELVE, STRAND), ("TooMany", 12))
        self.assertEqual(told_error(patch_beside, Patch(TWELVE.crossings, TWELVE.rim, 8), many), ("TooMany", 12))
        self.assertEqual(told_error(patch_beside, many, Patch([], [], 4)), ("TooMany", 8))
        self.assertEqual(patch_beside(many, Patch([], [], 3)).rings, 8)

    def test_refuses(self):
        for thing in NO_PATCHES:
            self.assertEqual(told_error(patch_beside, thing, None), ("BadPatch", None))
            self.assertEqual(told_error(patch_beside, WIDE, thing), ("BadPatch", None))
            self.assertEqual(told_error(patch_beside, thing, WIDE), ("BadPatch", None))
        self.assertEqual(patch_beside(other=STRAND, one=EMPTY), STRAND)


class TurnedTest(unittest.TestCase):
    def test_by_hand(self):
        self.assertEqual(patch_turned(CROSS, 1).rim, ((3, -1), (1, -1), (2, 1), (0, 1)))
        self.assertEqual(patch_turned(CROSS, -1).rim, ((2, 1), (0, 1), (3, -1), (1, -1)))
        self.assertEqual(patch_turned(CROSS, 10 ** 30 + 2), patch_turned(CROSS, 2))

    def test_as_told(self):
        for patch in PATCHES:
            for many in (0, 1, 2, 5, -1, -7, 12, 100):
                told = patch_turned(patch, many)
                rim = [patch.rim[(at + many) % len(patch.rim)] for at in range(len(patch.rim))]
                self.assertTrue(is_same_but_names(told, Patch(patch.crossings, rim, patch.rings)))
                self.assertTrue(is_same_but_names(patch_turned(told, -many), patch))
            if not patch.rim:
                self.assertTrue(is_same_but_names(patch_turned(patch, 7), patch))

    def test_refuses(self):
        for thing in NO_PATCHES:
            self.assertEqual(told_error(patch_turned, thing, None), ("BadPatch", None))
        for thing in NO_NUMBERS:
            self.assertEqual(told_error(patch_turned, CROSS, thing), ("BadNumber", "many"), thing)
            self.assertEqual(told_error(patch_turned, EMPTY, thing), ("BadNumber", "many"), thing)
        self.assertEqual(patch_turned(many=4, patch=CROSS), CROSS)


class TiedTest(unittest.TestCase):
    def test_by_hand(self):
        self.assertTrue(is_same_but_names(patch_tied(STRAND, 0), Patch([], [], 1)))
        self.assertTrue(is_same_but_names(patch_tied(STRAND, 1), Patch([], [], 1)))
        self.assertTrue(is_same_but_names(patch_tied(CROSS, 0), Patch([(1, 0, 1, 2, 0)], [(1, -1), (2, 1)], 0)))
        self.assertTrue(is_same_but_names(patch_tied(CROSS, 2), Patch([(1, 0, 1, 1, 3)], [(0, 1), (3, -1)], 0)))
        # The last place and place 0, which are next to one another too.
        turned = patch_turned(CROSS, 1)
        self.assertTrue(is_same_but_names(patch_tied(turned, 3), Patch([(1, 0, 1, 2, 0)], [(1, -1), (2, 1)], 0)))
        self.assertTrue(is_same_but_names(patch_tied(patch_tied(CROSS, 0), 0), patch_of(KINK)))
        self.assertTrue(is_same_but_names(patch_tied(KINKED, 1), patch_of(KINK)))

    def test_as_told(self):
        rings = 0
        for patch in PATCHES:
            for place in range(len(patch.rim)):
                if patch.rim[place][1] == patch.rim[(place + 1) % len(patch.rim)][1]:
                    self.assertEqual(told_error(patch_tied, patch, place), ("NotHere",))
                elif plain_tied(patch, place)[2] == 9:
                    self.assertEqual(told_error(patch_tied, patch, place), ("TooMany", 8))
                else:
                    told = patch_tied(patch, place)
                    self.assertTrue(is_same_but_names(told, Patch(*plain_tied(patch, place))))
                    rings += told.rings > patch.rings
        self.assertGreater(rings, 2)

    def test_closed_braids(self):
        for strands, word in ((2, [1, 1, 1]), (3, [1, -2, 1, -2]), (4, [1, 2, -3]), (6, [1, 3, 5, 2]), (3, []), (2, [])):
            patch = braid_patch(strands, word)
            for strand in range(strands):
                patch = patch_tied(patch, strands - 1 - strand)
            self.assertTrue(alike(drawing_of(patch), closed_braid(strands, word)))

    def test_some_patches_close(self):
        closed = 0
        for seed in range(60):
            patch = some_patch(seed, 6)
            if not patch.rim:
                closed += 1
                self.assertEqual(way_count(drawing_of(patch)) > 0, bool(patch.crossings or patch.rings))
        self.assertGreater(closed, 5)

    def test_refuses(self):
        for thing in NO_PATCHES:
            self.assertEqual(told_error(patch_tied, thing, None), ("BadPatch", None))
        for thing in (-1, 4, 99) + NO_NUMBERS:
            self.assertEqual(told_error(patch_tied, CROSS, thing), ("BadPlace",), thing)
        self.assertEqual(told_error(patch_tied, EMPTY, 0), ("BadPlace",))
        self.assertEqual(told_error(patch_tied, CROSS, 1), ("NotHere",))
        self.assertEqual(told_error(patch_tied, CROSS, 3), ("NotHere",))
        full = Patch([], STRAND.rim, 8)
        self.assertEqual(told_error(patch_tied, full, 0), ("TooMany", 8))
        self.assertEqual(patch_tied(Patch([], [(0, 1), (0, -1), (1, 1), (1, -1)], 8), 1).rings, 8)
        both_in = Patch([], [(0, 1), (1, 1), (1, -1), (0, -1)], 8)
        self.assertEqual(told_error(patch_tied, both_in, 0), ("NotHere",))
        self.assertEqual(told_error(patch_tied, both_in, 1), ("TooMany", 8))
        self.assertEqual(patch_tied(place=1, patch=STRAND).rings, 1)


class MirroredTest(unittest.TestCase):
    def test_as_told(self):
        for patch in BIGGER:
            told = patch_mirrored(patch)
            rows = [(-s, c, d, a, b) for s, a, b, c, d in patch.crossings]
            self.assertTrue(is_same_but_names(told, Patch(rows, patch.rim, patch.rings)))
            self.assertTrue(is_same_but_names(patch_mirrored(told), patch))
        for drawing in SAMPLES:
            self.assertTrue(alike(drawing_of(patch_mirrored(patch_of(drawing))), mirrored(drawing)))

    def test_refuses(self):
        for thing in NO_PATCHES + (TREFOIL, Drawing([], 0)):
            self.assertEqual(told_error(patch_mirrored, thing), ("BadPatch", None))
        self.assertEqual(patch_mirrored(patch=EMPTY), EMPTY)
        self.assertTrue(is_same_but_names(patch_mirrored(patch_of(HOPF)), patch_of(mirrored(HOPF))))


if __name__ == "__main__":
    unittest.main()
