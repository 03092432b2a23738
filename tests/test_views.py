import copy
import itertools
import random
import unittest

from ringcubes.braids import closed_braid
from ringcubes.drawings import Drawing, linking, ways
from ringcubes.views import alike, in_order, mirrored, renamed, turned_about, way_turned
from tests.samples import (BORROMEAN, EIGHT, HANDS, HOPF, KINK, LEFT, NO_DRAWINGS, NO_NUMBERS, NOTHING, RING, RINGS,
                           SAMPLES, TREFOIL, TWO_PIECES, same_kinds, told_error)


def shuffled(drawing, seed):
    """A drawing alike, by a sequence and names that a seed tells."""
    chance = random.Random(seed)
    order = list(range(len(drawing.crossings)))
    chance.shuffle(order)
    names = chance.sample(range(100), len(drawing.arcs))
    return in_order(renamed(drawing, dict(zip(drawing.arcs, names))), order)


class ViewsTest(unittest.TestCase):
    def test_mirrored(self):
        self.assertTrue(same_kinds(mirrored(HOPF).crossings, ((-1, 0, 3, 1, 2), (-1, 2, 1, 3, 0))))
        self.assertEqual(mirrored(Drawing(HOPF.crossings, 4)).rings, 4)
        self.assertEqual(mirrored(RINGS), RINGS)
        self.assertTrue(alike(mirrored(TREFOIL), LEFT))

    def test_turned_about(self):
        self.assertTrue(same_kinds(turned_about(HOPF).crossings, ((1, 2, 1, 3, 0), (1, 0, 3, 1, 2))))
        self.assertEqual(turned_about(Drawing(HOPF.crossings, 4)).rings, 4)

    def test_twice_is_back(self):
        for drawing in SAMPLES:
            self.assertEqual(mirrored(mirrored(drawing)), drawing)
            self.assertEqual(turned_about(turned_about(drawing)), drawing)
            self.assertEqual(turned_about(mirrored(drawing)), mirrored(turned_about(drawing)))
            for index in range(len(ways(drawing))):
                self.assertEqual(way_turned(way_turned(drawing, index), index), drawing)

    def test_way_turned_by_hand(self):
        self.assertTrue(same_kinds(way_turned(HOPF, 0).crossings, ((-1, 1, 2, 3, 0), (-1, 0, 3, 2, 1))))
        self.assertTrue(same_kinds(way_turned(HOPF, 1).crossings, ((-1, 2, 1, 0, 3), (-1, 3, 0, 1, 2))))
        self.assertEqual(way_turned(TREFOIL, 0), turned_about(TREFOIL))
        self.assertEqual(way_turned(Drawing(KINK.crossings, 3), 0), Drawing([(1, 1, 0, 0, 1)], 3))

    def test_ways_turned_among_others(self):
        for drawing in (BORROMEAN, HANDS, TWO_PIECES, closed_braid(3, [1, 1, 1, 1, 2, 2])):
            many = len(ways(drawing))
            for index in range(many):
                told = way_turned(drawing, index)
                for one, other in itertools.combinations(range(many), 2):
                    sign = -1 if index in (one, other) else 1
                    self.assertEqual(linking(told, one, other), sign * linking(drawing, one, other))
                for crossing, behind in zip(drawing.crossings, told.crossings):
                    hits = [crossing[slot] in ways(drawing)[index] for slot in (1, 3)]
                    self.assertEqual(behind[0], crossing[0] * (-1 if hits.count(True) == 1 else 1))
            everything = drawing
            for index in range(many):
                everything = way_turned(everything, index)
            self.assertEqual(everything, turned_about(drawing))

    def test_way_turned_wrong_indexes(self):
        for thing in (-1, 2, 99) + NO_NUMBERS:
            self.assertEqual(told_error(way_turned, HOPF, thing), ("BadWay",), thing)
        self.assertEqual(told_error(way_turned, RINGS, 0), ("BadWay",))
        self.assertEqual(way_turned(index=0, drawing=KINK), way_turned(KINK, 0))

    def test_renamed(self):
        told = renamed(HOPF, {0: 9, 1: 0, 2: 99, 3: 3})
        self.assertTrue(same_kinds(told.crossings, ((1, 0, 99, 9, 3), (1, 3, 9, 99, 0))))
        self.assertEqual(renamed(Drawing(KINK.crossings, 5), {0: 1, 1: 0}), Drawing([(1, 1, 0, 0, 1)], 5))
        self.assertEqual(renamed(RINGS, {}), RINGS)

    def test_renamed_wrong_tables(self):
        right = {0: 9, 1: 0, 2: 99, 3: 3}
        for thing in (None, 3, "ab", [9, 0, 99, 3], (), [], [(0, 9), (1, 0), (2, 99), (3, 3)], {}, {0: 9, 1: 0, 2: 99},
                      {**right, 4: 4}, {**right, 3: 9}, {**right, 3: 100}, {**right, 3: -1}, {**right, "0": 5},
                      {False: 9, True: 0, 2: 99, 3: 3}, {0.0: 9, 1: 0, 2: 99, 3: 3}, {4: 9, 1: 0, 2: 99, 3: 3}):
            self.assertEqual(told_error(renamed, HOPF, thing), ("BadTable",), thing)
        for thing in NO_NUMBERS:
            self.assertEqual(told_error(renamed, HOPF, {**right, 3: thing}), ("BadTable",), thing)
        self.assertEqual(told_error(renamed, NOTHING, {0: 0}), ("BadTable",))

    def test_in_order(self):
        rows = TREFOIL.crossings
        self.assertEqual(in_order(TREFOIL, [2, 0, 1]).crossings, (rows[2], rows[0], rows[1]))
        self.assertEqual(in_order(TREFOIL, (2, 0, 1)), in_order(order=[2, 0, 1], drawing=TREFOIL))
        self.assertEqual(in_order(Drawing(rows, 2), [0, 1, 2]), Drawing(rows, 2))
        self.assertEqual(in_order(RINGS, []), RINGS)

    def test_wrong_orders(self):
        for thing in (None, 3, "012", {0: 0, 1: 1, 2: 2}, {0, 1, 2}, [], [0, 1], [0, 1, 2, 3], [0, 1, 1], [1, 2, 3],
                      [-1, 0, 1], [0, 1, "2"], range(3)):
            self.assertEqual(told_error(in_order, TREFOIL, thing), ("BadOrder",), thing)
        for thing in NO_NUMBERS:
            self.assertEqual(told_error(in_order, TREFOIL, [thing, 0, 2]), ("BadOrder",), thing)
        self.assertEqual(told_error(in_order, KINK, [False]), ("BadOrder",))

    def test_alike_by_names_and_sequence(self):
        for drawing in SAMPLES:
            for seed in range(4):
                told = shuffled(drawing, seed)
                self.assertIs(alike(drawing, told), True)
                self.assertIs(alike(told, drawing), True)

    def test_unlike_drawings(self):
        for one, other in ((TREFOIL, LEFT), (TREFOIL, EIGHT), (NOTHING, RING), (RING, RINGS), (KINK, RING),
                           (TREFOIL, Drawing(TREFOIL.crossings, 1)), (KINK, Drawing([(-1, 0, 1, 1, 0)], 0)),
                           (closed_braid(3, [1, 2]), closed_braid(3, [1, -2])),
                           (closed_braid(2, [1, 1]), closed_braid(2, [1, -1])),
                           (closed_braid(4, [1, 3]), closed_braid(4, [1, 2])),
                           (closed_braid(5, [1, 1, 3, 3, 3, 3]), closed_braid(5, [1, 1, 1, 3, 3, 3]))):
            self.assertIs(alike(one, other), False)
            self.assertIs(alike(other, one), False)

    def test_pieces_of_one_size(self):
        plus, minus = (1, 0, 1, 1, 0), (-1, 2, 3, 3, 2)
        twice = Drawing([plus, (1, 2, 3, 3, 2)], 0)
        both = Drawing([plus, minus], 0)
        for one, other in ((twice, both), (KINK, twice), (HOPF, Drawing(HOPF.crossings + ((1, 8, 9, 9, 8),), 0)),
                           (closed_braid(4, [1, 1, 3, -3]), closed_braid(4, [1, 1, 3, 3]))):
            self.assertIs(alike(one, other), False)
            self.assertIs(alike(other, one), False)
        self.assertIs(alike(both, Drawing([minus, plus], 0)), True)

    def test_strands_by_turns(self):
        # In all of these each arc goes over one crossing and under the next one: so only the whole tells them apart.
        words = ([1, -2, 1, -2], [1, 1, -2, -2], [1, -2, -2, 1])
        longer = ([1, -2, 1, -2, 1, -2], [1, 1, -2, -2, 1, -2], [1, 1, 1, -2, -2, -2], [1, -2, -2, 1, -2, 1])
        for group in (words, longer):
            for one, other in itertools.product(group, repeat=2):
                near, far = closed_braid(3, one), shuffled(closed_braid(3, other), 7)
                self.assertIs(alike(near, far), is_alike_by_force(near, far))
        self.assertIs(alike(closed_braid(3, words[0]), closed_braid(3, words[1])), False)

    def test_one_crossing_or_direction_changed(self):
        for drawing in (TREFOIL, EIGHT, BORROMEAN):
            for at, (s, a, b, c, d) in enumerate(drawing.crossings):
                rows = list(drawing.crossings)
                rows[at] = (-s, c, d, a, b)
                self.assertIs(alike(drawing, Drawing(rows, 0)), False)
        self.assertIs(alike(HOPF, way_turned(HOPF, 0)), False)
        self.assertIs(alike(HANDS, way_turned(HANDS, 0)), False)
        loop = closed_braid(3, [1, 1, -2])
        self.assertEqual(len(ways(loop)), 2)
        self.assertIs(alike(loop, way_turned(loop, 1)), False)
        for word in ([1, 2, 2, 2, 1, -2], [1, 1, 2, -1, 2, -1]):
            drawing = closed_braid(3, word)
            self.assertIs(alike(drawing, turned_about(drawing)), is_alike_by_force(drawing, turned_about(drawing)))

    def test_alike_by_force(self):
        words = [word for many in range(4) for word in itertools.product((1, -1, 2, -2), repeat=many)]
        told = [closed_braid(3, list(word)) for word in words]
        for one in told[::5]:
            for other in told[::3]:
                self.assertIs(alike(one, other), is_alike_by_force(one, other))

    def test_pieces_that_come_twice(self):
        rows = HOPF.crossings + tuple((s, a + 4, b + 4, c + 4, d + 4) for s, a, b, c, d in HOPF.crossings)
        three = rows + ((1, 8, 9, 9, 8),)
        self.assertIs(alike(Drawing(three, 0), shuffled(Drawing(three, 0), 5)), True)
        self.assertIs(alike(Drawing(rows, 0), closed_braid(2, [1] * 4)), False)

    def test_a_piece_that_goes_twice_round_another_one(self):
        rows = closed_braid(2, [1] * 4).crossings
        one = Drawing(rows + tuple((s, a + 20, b + 20, c + 20, d + 20) for s, a, b, c, d in HOPF.crossings), 0)
        self.assertIs(alike(one, in_order(one, [4, 5, 0, 1, 2, 3])), True)
        self.assertIs(alike(in_order(one, [4, 5, 0, 1, 2, 3]), one), True)

    def test_nothing_is_changed(self):
        table = {0: 9, 1: 0, 2: 99, 3: 3}
        kept = copy.deepcopy(table)
        renamed(HOPF, table)
        self.assertEqual(table, kept)
        order = [2, 0, 1]
        in_order(TREFOIL, order)
        self.assertEqual(order, [2, 0, 1])
        self.assertEqual(TREFOIL, closed_braid(2, [1, 1, 1]))

    def test_no_drawing(self):
        for thing in NO_DRAWINGS:
            for call, rest in ((mirrored, ()), (turned_about, ()), (way_turned, (None,)), (renamed, (None,)),
                               (in_order, (None,)), (alike, (HOPF,))):
                self.assertEqual(told_error(call, thing, *rest), ("BadDrawing", None))
            self.assertEqual(told_error(alike, HOPF, thing), ("BadDrawing", None))


def is_alike_by_force(one, other):
    """Whether some sequence of crossings, tried one by one, gives the other drawing."""
    if one.rings != other.rings or len(one.crossings) != len(other.crossings):
        return False
    for order in itertools.permutations(range(len(one.crossings))):
        table = {}
        fits = True
        for index, goal in zip(order, other.crossings):
            row = one.crossings[index]
            fits = fits and row[0] == goal[0]
            for arc, name in zip(row[1:], goal[1:]):
                fits = fits and table.setdefault(arc, name) == name
        if fits and len(set(table.values())) == len(table):
            return True
    return False


if __name__ == "__main__":
    unittest.main()
