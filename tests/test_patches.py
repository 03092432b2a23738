import random
import unittest

from ringcubes.braids import closed_braid
from ringcubes.drawings import Drawing
from ringcubes.patches import Patch, drawing_of, patch_of
from tests.patchworks import (BIGGER, CROSS, CROSS_BACK, EMPTY, KINKED, PATCHES, STRAND, braid_patch, some_patch)
from tests.samples import (HOPF, KINK, NO_DRAWINGS, NO_NUMBERS, NOTHING, SAMPLES, TREFOIL, ends_of, same_kinds, told_error)

NO_PATCHES = (None, True, 0, "patch", (), [], {}, ((), (), 0), Patch, HOPF)
NO_LISTS = (None, True, 0, "", "ab", {}, {0: 1})
NO_CROSSINGS = (None, 0, (), (1, 0, 1, 1), (1, 0, 1, 1, 0, 0), [1, 0, 1, 1, 0], (0, 0, 1, 1, 0), (2, 0, 1, 1, 0),
                (True, 0, 1, 1, 0), (1.0, 0, 1, 1, 0), (1, True, 0, 0, True), (1, 0, 100, 100, 0), (1, -1, 0, 0, -1),
                (1, "0", 1, 1, "0"), "10110")
NO_RIM_ENDS = (None, 0, (), (0,), (0, 1, 1), [0, 1], (0, 0), (0, 2), (0, True), (True, 1), (False, -1), (-1, 1), (100, 1),
               ("0", 1), (0, "1"), (0.0, 1), (0, -1.0), "01", ((0, 1),))
TURNS = [(0, 1), (3, -1), (1, -1), (2, 1)]


def plain_in_plane(crossings, rim):
    """Whether a patch can be drawn in the disc, by the words of the document."""
    stars = [[(arc, 1 if goes_in else -1) for arc, goes_in in ends_of(row)] for row in crossings]
    if rim:
        stars.append([(arc, -way) for arc, way in list(rim)[::-1]])
    place_of = {end: (c, k) for c, star in enumerate(stars) for k, end in enumerate(star)}
    follows = {}
    for c, star in enumerate(stars):
        for k in range(len(star)):
            arc, way = star[(k + 1) % len(star)]
            follows[(c, k)] = place_of[(arc, -way)]
    parts = {c: {c} for c in range(len(stars))}
    for (arc, way), (c, _) in place_of.items():
        both = parts[c] | parts[place_of[(arc, -way)][0]]
        parts.update({member: both for member in both})
    rest, faces_of = set(follows), {}
    while rest:
        corner = start = min(rest)
        while corner in rest:
            rest.remove(corner)
            corner = follows[corner]
        faces_of[min(parts[start[0]])] = faces_of.get(min(parts[start[0]]), 0) + 1
    for part in {frozenset(part) for part in parts.values()}:
        with_rim = rim and len(crossings) in part
        goal = len(part) - 1 + 1 + len(rim) // 2 if with_rim else len(part) + 2
        if faces_of[min(part)] != goal:
            return False
    return True


def plain_tied_ends(crossings, rim):
    """Whether each arc that comes begins just once and ends just once."""
    begins = [arc for row in crossings for arc in (row[2], row[4])] + [arc for arc, way in rim if way == 1]
    ends = [arc for row in crossings for arc in (row[1], row[3])] + [arc for arc, way in rim if way == -1]
    return sorted(begins) == sorted(ends) == sorted(set(begins))


class PatchTest(unittest.TestCase):
    def test_attributes(self):
        patch = Patch([(1, 0, 1, 2, 3)], [(0, 1), (3, -1), (1, -1), (2, 1)], 2)
        self.assertTrue(same_kinds((patch.crossings, patch.rim, patch.rings, patch.arcs, patch.plus, patch.minus),
                                   (((1, 0, 1, 2, 3),), ((0, 1), (3, -1), (1, -1), (2, 1)), 2, (0, 1, 2, 3), 1, 0)))
        self.assertTrue(same_kinds((CROSS_BACK.plus, CROSS_BACK.minus), (0, 1)))
        self.assertTrue(same_kinds((EMPTY.crossings, EMPTY.rim, EMPTY.rings, EMPTY.arcs), ((), (), 0, ())))
        self.assertEqual(Patch((), ((99, -1), (99, 1)), 0).arcs, (99,))
        self.assertEqual(Patch(rings=1, rim=[], crossings=[]).rings, 1)

    def test_equal(self):
        self.assertEqual(Patch(((1, 0, 1, 2, 3),), tuple(TURNS), 0), CROSS)
        self.assertEqual(Patch([(1, 0, 1, 2, 3)], TURNS, 0) == Patch([(1, 0, 1, 2, 3)], TURNS, 1), False)
        self.assertNotEqual(Patch([(1, 0, 1, 2, 3)], TURNS[1:] + TURNS[:1], 0), CROSS)
        self.assertNotEqual(Patch([(1, 0, 1, 2, 4)], [(0, 1), (4, -1), (1, -1), (2, 1)], 0), CROSS)
        for thing in (None, 0, "", (CROSS.crossings, CROSS.rim, 0), Drawing([], 0), NOTHING, [], HOPF):
            self.assertFalse(CROSS == thing)
            self.assertFalse(patch_of(HOPF) == thing)
            self.assertFalse(EMPTY == thing)
            self.assertTrue(EMPTY != thing)
        rows = [(1, 1, 2, 0, 3), (1, 3, 0, 2, 1)]
        self.assertEqual(patch_of(HOPF), Patch(rows, [], 0))
        self.assertNotEqual(patch_of(HOPF), Patch(rows[::-1], [], 0))

    def test_later_changes_have_no_effect(self):
        rows, rim = [(1, 0, 1, 2, 3)], list(TURNS)
        patch = Patch(rows, rim, 0)
        rows.clear()
        rim.reverse()
        self.assertEqual(patch, CROSS)

    def test_in_the_disc(self):
        for patch in BIGGER:
            self.assertTrue(plain_in_plane(patch.crossings, patch.rim))
        self.assertEqual(told_error(Patch, CROSS.crossings, TURNS[::-1], 0), ("BadPatch", "plane"))
        self.assertEqual(told_error(Patch, CROSS_BACK.crossings, TURNS, 0), ("BadPatch", "plane"))

    def test_sequences_of_the_rim(self):
        fits = 0
        for patch in PATCHES:
            rim = list(patch.rim)
            for at in range(len(rim)):
                for other in range(at):
                    rim[at], rim[other] = rim[other], rim[at]
                    if plain_in_plane(patch.crossings, rim):
                        fits += 1
                        self.assertEqual(Patch(patch.crossings, rim, 0).rim, tuple(rim))
                    else:
                        self.assertEqual(told_error(Patch, patch.crossings, rim, 0), ("BadPatch", "plane"))
        self.assertGreater(fits, 10)

    def test_strands_from_rim_to_rim(self):
        self.assertEqual(STRAND.arcs, (0,))
        self.assertEqual(Patch([], [(0, 1), (1, 1), (1, -1), (0, -1)], 0).arcs, (0, 1))
        self.assertEqual(Patch([], [(0, 1), (0, -1), (1, 1), (1, -1)], 0).arcs, (0, 1))
        self.assertEqual(told_error(Patch, [], [(0, 1), (1, 1), (0, -1), (1, -1)], 0), ("BadPatch", "plane"))
        self.assertEqual(len(braid_patch(6, []).rim), 12)
        # A strand beside a crossing on either side of it, but not across.
        for at in range(5):
            rim = TURNS[:at] + [(9, 1), (9, -1)] + TURNS[at:]
            self.assertEqual(Patch(CROSS.crossings, rim, 0).arcs, (0, 1, 2, 3, 9))
        across = [(9, 1)] + TURNS[:2] + [(9, -1)] + TURNS[2:]
        self.assertEqual(told_error(Patch, CROSS.crossings, across, 0), ("BadPatch", "plane"))

    def test_many_kinks(self):
        for many in (0, 1, 7, 20):
            rows = [(1 - 2 * (at % 2), 2 * at, 2 * at + 1, 2 * at + 1, 2 * at + 2) for at in range(many)]
            patch = Patch(rows, [(0, 1), (2 * many, -1)], 0)
            self.assertEqual((patch.plus, patch.minus, len(patch.arcs)), ((many + 1) // 2, many // 2, 2 * many + 1))
        rows.append((1, 40, 41, 41, 42))
        self.assertEqual(told_error(Patch, rows, [(0, 1), (42, -1)], 0), ("BadPatch", "crossings"))

    def test_one_thing_spoiled(self):
        """Patches that have grown, with one thing changed: what is wrong is told by the words of the document."""
        met = {}
        for seed in range(60):
            patch = some_patch(seed + 500, 6)
            chance = random.Random(seed)
            for _ in range(30):
                rows, rim = [list(row) for row in patch.crossings], [list(end) for end in patch.rim]
                kind = chance.choice(("sign", "arc", "rim arc", "way", "swap", "drop", "double", "turn"))
                if kind == "sign" and rows:
                    row = chance.choice(rows)
                    row[0] = -row[0]
                elif kind == "arc" and rows:
                    chance.choice(rows)[chance.randrange(1, 5)] = chance.randrange(12)
                elif kind == "rim arc" and rim:
                    chance.choice(rim)[0] = chance.randrange(12)
                elif kind == "way" and rim:
                    end = chance.choice(rim)
                    end[1] = -end[1]
                elif kind == "swap" and rim:
                    one, other = chance.randrange(len(rim)), chance.randrange(len(rim))
                    rim[one], rim[other] = rim[other], rim[one]
                elif kind == "drop" and rows:
                    rows.pop(chance.randrange(len(rows)))
                elif kind == "double" and rim:
                    rim.append(list(chance.choice(rim)))
                elif kind == "turn" and rows:
                    row = chance.choice(rows)
                    row[1], row[2], row[3], row[4] = row[3], row[4], row[1], row[2]
                rows, rim = [tuple(row) for row in rows], [tuple(end) for end in rim]
                error = None
                if len(rim) > 12:
                    error = ("BadPatch", "rim")
                elif not plain_tied_ends(rows, rim):
                    error = ("BadPatch", "arcs")
                elif not plain_in_plane(rows, rim):
                    error = ("BadPatch", "plane")
                met[error] = met.get(error, 0) + 1
                self.assertEqual(told_error(Patch, rows, rim, 0), error, (rows, rim))
        self.assertGreater(min(met[None], met[("BadPatch", "arcs")], met[("BadPatch", "plane")]), 50)

    def test_several_pieces(self):
        rows = list(CROSS.crossings) + [(1, 4, 5, 5, 4), (-1, 6, 7, 7, 8)]
        self.assertEqual(Patch(rows, TURNS + [(6, 1), (8, -1)], 0).plus, 2)
        # A piece without rim ends has to lie in the plane by itself.
        twisted = [(1, 4, 5, 6, 7), (1, 5, 4, 7, 6)]
        self.assertEqual(told_error(Patch, twisted, [], 0), ("BadPatch", "plane"))
        self.assertEqual(told_error(Patch, list(CROSS.crossings) + twisted, TURNS, 0), ("BadPatch", "plane"))

    def test_wrong_parts(self):
        for thing in NO_LISTS:
            self.assertEqual(told_error(Patch, thing, None, None), ("BadPatch", "crossings"), thing)
            self.assertEqual(told_error(Patch, [], thing, None), ("BadPatch", "rim"), thing)
        for thing in NO_CROSSINGS:
            self.assertEqual(told_error(Patch, [thing], None, None), ("BadPatch", "crossings"), thing)
        for thing in NO_RIM_ENDS:
            self.assertEqual(told_error(Patch, [(1, 0, 1, 1, 0)], [thing], None), ("BadPatch", "rim"), thing)
            self.assertEqual(told_error(Patch, [], [(0, 1), (0, -1), thing], 0), ("BadPatch", "rim"), thing)
        for thing in (-1, 9, 99) + NO_NUMBERS:
            self.assertEqual(told_error(Patch, [(1, 0, 1, 2, 3)], [], thing), ("BadPatch", "rings"), thing)

    def test_wrong_arcs(self):
        rows = list(CROSS.crossings)
        for crossings, rim in ((rows, []), (rows, TURNS[:3]), (rows, TURNS + [(4, 1)]), (rows, TURNS + [(4, -1)]),
                               (rows, TURNS + [(0, -1)]), (rows, TURNS + [(0, 1)]), (rows, TURNS + [(0, 1), (0, -1)]),
                               (rows, [(0, -1)] + TURNS[1:]), (rows, [(0, 1), (3, -1), (1, -1), (2, -1)]),
                               (rows + rows, TURNS), (rows + rows, TURNS + TURNS), ([(1, 0, 0, 0, 0)], []),
                               ([(1, 0, 1, 0, 1)], []), ([], [(0, 1)]), ([], [(0, -1)]), ([], [(0, 1), (0, 1)]),
                               ([], [(0, 1), (1, -1)]), ([], [(0, -1), (0, -1)]), ([], [(0, 1), (0, -1)] * 2),
                               ([(1, 0, 1, 1, 0)], [(0, 1), (0, -1)])):
            self.assertEqual(told_error(Patch, crossings, rim, 0), ("BadPatch", "arcs"), (crossings, rim))

    def test_limits(self):
        rows = closed_braid(2, [1] * 20).crossings
        self.assertEqual(len(Patch(rows, [], 8).crossings), 20)
        more = list(rows) + [(1, 90, 91, 91, 90)]
        self.assertEqual(told_error(Patch, more, [], 0), ("BadPatch", "crossings"))
        twelve = [(at, way) for at in range(6) for way in (1, -1)]
        self.assertEqual(len(Patch([], twelve, 0).rim), 12)
        self.assertEqual(told_error(Patch, [], twelve + [(6, 1)], 0), ("BadPatch", "rim"))
        self.assertEqual(told_error(Patch, [], twelve + [(6, 1), (6, -1)], 0), ("BadPatch", "rim"))
        self.assertEqual(Patch([], [], 8).rings, 8)
        self.assertEqual(told_error(Patch, [], [], 9), ("BadPatch", "rings"))


class ThereAndBackTest(unittest.TestCase):
    def test_there_and_back(self):
        for drawing in SAMPLES + (Drawing([], 8), closed_braid(3, [1, -2] * 10)):
            patch = patch_of(drawing)
            self.assertIsInstance(patch, Patch)
            self.assertTrue(same_kinds((patch.crossings, patch.rim, patch.rings, patch.arcs, patch.plus, patch.minus),
                                       (drawing.crossings, (), drawing.rings, drawing.arcs, drawing.plus, drawing.minus)))
            self.assertEqual(drawing_of(patch), drawing)

    def test_refuses(self):
        for patch in PATCHES:
            if patch.rim:
                self.assertEqual(told_error(drawing_of, patch), ("NotHere",))
            else:
                self.assertEqual(patch_of(drawing_of(patch)), patch)
        for thing in NO_DRAWINGS + (EMPTY, KINKED):
            self.assertEqual(told_error(patch_of, thing), ("BadDrawing", None))
        for thing in NO_PATCHES + (TREFOIL,):
            self.assertEqual(told_error(drawing_of, thing), ("BadPatch", None))
        self.assertEqual(drawing_of(patch=patch_of(drawing=KINK)), KINK)


if __name__ == "__main__":
    unittest.main()
