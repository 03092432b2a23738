import itertools
import unittest

from ringcubes.alternates import alternated, is_alternate
from ringcubes.braids import closed_braid
from ringcubes.drawings import Drawing, pieces
from ringcubes.faces import shades
from ringcubes.makings import side_by_side
from ringcubes.moves import kinked
from ringcubes.older import older_row
from ringcubes.rooms import rooms
from ringcubes.shadeforms import determinant, signature
from ringcubes.views import in_order, mirrored, way_turned
from ringcubes.webtrees import tree_spot, tree_spots, trees
from tests.samples import (BORROMEAN, EIGHT, HANDS, HOPF, KINK, KINK_BACK, LEFT, NO_DRAWINGS, NO_NUMBERS, NOT_BY_TURNS,
                           NOTHING, RING, RINGS, SAMPLES, TREFOIL, TWO_PIECES, is_ascending, same_kinds, told_error)
from tests.walks import walk

BIG = closed_braid(2, [1] * 11)
TEN = closed_braid(3, [1, -2] * 5)
WALKED = tuple(goal for seed in range(6) for _, goal in walk((TREFOIL, HOPF, EIGHT)[seed % 3], 4, 8, seed))
HERE = tuple(drawing for drawing in SAMPLES + WALKED + (TEN, closed_braid(2, [1, -1]), closed_braid(3, [1, 2] * 5),
                                                        closed_braid(3, [1, 1, -2, 1, -2, -2]), way_turned(HANDS, 1))
             if len(pieces(drawing)) + drawing.rings == 1)
NOT_HERE = (NOTHING, RINGS, Drawing([], 2), KINK_BACK, TWO_PIECES, side_by_side(TREFOIL, TREFOIL),
            Drawing(TREFOIL.crossings, 1), closed_braid(4, [1, 3]))
NO_TREES = (None, True, 0, "", "0", [], [0], {}, {0: 1}, (), (True,), (False,), (0.0,), ("0",), (None,), (-1,), (3,), (99,),
            (0, 1), (0, 0), (0, 1, 2), ((0,),))


def edges_of(drawing):
    """For each crossing the two dark faces at it, and its tone."""
    edges, tones = {}, {}
    for at, face in enumerate(shades(drawing)):
        for index, place in face:
            edges.setdefault(index, []).append(at)
            tones[index] = (1, -1)[place % 2]
    return edges, tones


def hangs_together(drawing, lot):
    """Whether all dark faces hang together by a lot of crossings with no way round."""
    edges, _ = edges_of(drawing)
    parts = [{at} for at in range(len(shades(drawing)))] or [set()]
    for index in lot:
        one, other = [next(part for part in parts if at in part) for at in edges[index]]
        if one is other:
            return False
        parts.remove(other)
        one |= other
    return len(parts) == 1


def plain_trees(drawing):
    """All trees, ascending."""
    many = len(drawing.crossings)
    return sorted(lot for size in range(many + 1) for lot in itertools.combinations(range(many), size)
                  if hangs_together(drawing, lot))


def plain_spot(drawing, tree, all_trees):
    """The spot of a tree by the words of the document."""
    _, tones = edges_of(drawing)
    ones = plus_kinks = minus_kinks = 0
    for index in range(len(drawing.crossings)):
        inside = index in tree
        if inside:
            others = [other for other in range(index) if other not in tree]
            live = not any(tuple(sorted(set(tree) - {index} | {other})) in all_trees for other in others)
        else:
            others = [other for other in tree if other < index]
            live = not any(tuple(sorted(set(tree) - {other} | {index})) in all_trees for other in others)
        tone = tones[index]
        if live and (tone if inside else -tone) == 1:
            plus_kinks += 1
        elif live:
            minus_kinks += 1
        elif (inside and tone == 1) or (not inside and tone == -1):
            ones += 1
    height = ones + minus_kinks - drawing.minus
    return height, ones + 2 * minus_kinks - plus_kinks + drawing.plus - 2 * drawing.minus


class TreesTest(unittest.TestCase):
    def test_by_hand(self):
        drawing = closed_braid(2, [1, 1, 1])
        self.assertTrue(same_kinds(trees(drawing), [(0,), (1,), (2,)]))
        self.assertEqual([tree_spot(drawing, tree) for tree in trees(drawing)], [(0, 2), (2, 6), (3, 8)])
        self.assertTrue(same_kinds(tree_spots(drawing), {(0, 2): 1, (2, 6): 1, (3, 8): 1}))
        self.assertTrue(same_kinds(trees(RING), [()]))
        self.assertTrue(same_kinds(tree_spot(RING, ()), (0, 0)))
        self.assertTrue(same_kinds(tree_spots(RING), {(0, 0): 1}))
        self.assertEqual(len(trees(KINK)), 1)
        self.assertEqual(tree_spots(KINK), {(0, 0): 1})
        self.assertEqual(len(trees(EIGHT)), 5)
        self.assertEqual(tree_spots(HOPF), {(0, 1): 1, (2, 5): 1})

    def test_by_force(self):
        for drawing in HERE:
            if len(drawing.crossings) <= 8:
                self.assertTrue(same_kinds(trees(drawing), plain_trees(drawing)))

    def test_spots_by_the_words_of_the_document(self):
        for drawing in HERE:
            all_trees = trees(drawing)
            found = {}
            for tree in all_trees:
                spot = plain_spot(drawing, tree, all_trees)
                self.assertTrue(same_kinds(tree_spot(drawing, tree), spot))
                found[spot] = found.get(spot, 0) + 1
            self.assertEqual(tree_spots(drawing), found)
            self.assertTrue(is_ascending(tree_spots(drawing)))

    def test_older_row_and_rooms(self):
        for drawing in HERE:
            spots = tree_spots(drawing)
            row = {}
            for (height, weight), many in spots.items():
                for more in (1, -1):
                    row[weight + more] = row.get(weight + more, 0) + (-1) ** height * many
            self.assertEqual({weight: row[weight] for weight in row if row[weight]}, older_row(drawing))
            for prime in (2, 3):
                for (height, weight), many in rooms(prime, drawing).items():
                    self.assertLessEqual(many, spots.get((height, weight - 1), 0) + spots.get((height, weight + 1), 0))

    def test_moves_and_sequences_keep_the_sums(self):
        for seed, drawing in enumerate((TREFOIL, HOPF, EIGHT, NOT_BY_TURNS)):
            told = signed(drawing)
            goals = [goal for _, goal in walk(drawing, 6, 9, seed + 10)]
            goals += [in_order(drawing, list(range(len(drawing.crossings)))[::-1])]
            for goal in goals:
                if len(pieces(goal)) == 1 and goal.rings == 0:
                    self.assertEqual(signed(goal), told)

    def test_determinant(self):
        for drawing in HERE:
            _, tones = edges_of(drawing)
            total = 0
            for tree in trees(drawing):
                number = 1
                for index in tree:
                    number *= tones[index]
                total += number
            self.assertEqual(abs(total), determinant(drawing))

    def test_alternate(self):
        for drawing in HERE:
            for told in (alternated(drawing, 0), alternated(drawing, 1)):
                self.assertEqual(len(trees(told)), determinant(told))
                for height, weight in tree_spots(told):
                    self.assertEqual(weight, 2 * height - signature(told))

    def test_alternate_ones_of_one_string(self):
        # A kink that stays alternate, and the string seen with another sequence of crossings, change nothing.
        for drawing in (TREFOIL, LEFT, EIGHT, HOPF, BORROMEAN, closed_braid(3, [1, 1, 1, -2, 1, -2])):
            many = 0
            for arc, sign, over in itertools.product(drawing.arcs, (1, -1), (0, 1)):
                goal = kinked(drawing, arc, sign, over)
                if is_alternate(goal):
                    many += 1
                    self.assertEqual(tree_spots(goal), tree_spots(drawing))
            self.assertGreater(many, 0)
            order = list(range(len(drawing.crossings)))[::-1]
            self.assertEqual(tree_spots(in_order(drawing, order)), tree_spots(drawing))

    def test_more_than_ten_crossings(self):
        spots = [tree_spot(BIG, (index,)) for index in range(11)]
        self.assertEqual(spots[:3], [(0, 10), (2, 14), (3, 16)])
        self.assertEqual(spots[-1], (11, 32))
        wide = closed_braid(2, [-1] * 20)
        wide_trees = list(itertools.combinations(range(20), 19))
        for tree in wide_trees[::6]:
            self.assertEqual(tree_spot(wide, tree), plain_spot(wide, tree, wide_trees))
        self.assertEqual(told_error(tree_spot, wide, (20,)), ("BadTree",))


def signed(drawing):
    """The sums of (-1) ** height by weights over all trees."""
    found = {}
    for (height, weight), many in tree_spots(drawing).items():
        found[weight] = found.get(weight, 0) + (-1) ** height * many
    return {weight: many for weight, many in found.items() if many}


class RefusedTest(unittest.TestCase):
    def test_not_here(self):
        for drawing in NOT_HERE:
            for call in (trees, tree_spots):
                self.assertEqual(told_error(call, drawing), ("NotHere",))
            for thing in ((0,), (), None):
                self.assertEqual(told_error(tree_spot, drawing, thing), ("NotHere",))
        self.assertEqual(told_error(trees, Drawing(BIG.crossings, 1)), ("NotHere",))
        self.assertEqual(told_error(tree_spots, Drawing(BIG.crossings, 1)), ("NotHere",))

    def test_too_many(self):
        self.assertEqual(told_error(trees, BIG), ("TooMany", 10))
        self.assertEqual(told_error(tree_spots, BIG), ("TooMany", 10))
        self.assertEqual(sum(tree_spots(TEN).values()), determinant(TEN))
        self.assertEqual(tree_spots(closed_braid(2, [1] * 10))[(10, 29)], 1)

    def test_no_trees(self):
        for thing in NO_TREES:
            self.assertEqual(told_error(tree_spot, TREFOIL, thing), ("BadTree",), thing)
            self.assertEqual(told_error(tree_spot, BIG, thing if thing != (3,) else (11,)), ("BadTree",), thing)
        for thing in NO_NUMBERS + ((0,), (0, 1), [()]):
            self.assertEqual(told_error(tree_spot, RING, thing), ("BadTree",), thing)
        told = trees(EIGHT)
        wrong = [lot for size in range(5) for lot in itertools.permutations(range(4), size) if lot not in told]
        for lot in wrong:
            self.assertEqual(told_error(tree_spot, EIGHT, lot), ("BadTree",), lot)
        for tree in told:
            self.assertEqual(told_error(tree_spot, EIGHT, list(tree)), ("BadTree",))
            self.assertEqual(told_error(tree_spot, EIGHT, tree[::-1]), ("BadTree",))
            self.assertEqual(told_error(tree_spot, EIGHT, tree + tree[-1:]), ("BadTree",))
            self.assertEqual(told_error(tree_spot, EIGHT, tree[1:]), ("BadTree",))

    def test_no_drawing(self):
        for thing in NO_DRAWINGS:
            self.assertEqual(told_error(trees, thing), ("BadDrawing", None))
            self.assertEqual(told_error(tree_spots, thing), ("BadDrawing", None))
            self.assertEqual(told_error(tree_spot, thing, None), ("BadDrawing", None))

    def test_names_and_new_values(self):
        trees(drawing=TREFOIL).clear()
        tree_spots(drawing=TREFOIL).clear()
        self.assertEqual((len(trees(TREFOIL)), len(tree_spots(TREFOIL))), (3, 3))
        self.assertEqual(tree_spot(tree=(2,), drawing=TREFOIL), (3, 8))
        self.assertEqual(tree_spots(mirrored(LEFT)), tree_spots(TREFOIL))


if __name__ == "__main__":
    unittest.main()
