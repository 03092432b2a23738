import random
import unittest

from ringcubes.alternates import alternated, idle_crossings, is_alternate
from ringcubes.braids import closed_braid
from ringcubes.drawings import Drawing, linking, pieces, way_count, ways
from ringcubes.makings import joined_at, side_by_side
from ringcubes.moves import kinked
from ringcubes.older import older_row
from ringcubes.rooms import rooms, whole_rooms
from ringcubes.shadeforms import determinant, signature
from ringcubes.twolines import halved_row, told_by_trees
from ringcubes.views import way_turned
from ringcubes.webtrees import tree_spots
from ringcubes.webs import woven
from tests.samples import (BORROMEAN, EIGHT, HANDS, HOPF, KINK, KINK_BACK, LEFT, NO_DRAWINGS, NO_NUMBERS, NOT_BY_TURNS,
                           NOTHING, RING, RINGS, SAMPLES, TREFOIL, TWO_PIECES, is_ascending, same_kinds, told_error)
from tests.walks import walk

BIG = closed_braid(2, [1] * 11)
NO_ROWS = (None, True, 0, "", (), [], [(0, 1)], {True: 1}, {"0": 1}, {(0,): 1}, {0.0: 1}, {None: 1}, {0: True}, {0: 1.0},
           {0: "1"}, {0: None}, {0: (1,)}, {0: [1]}, {0: 1, 1: False})
NOT_HALVED = ({0: 1}, {0: 1, 2: -1}, {0: 1, 2: 2}, {0: 1, 2: 1, 4: 1}, {0: 1, 3: 1}, {0: 1, 1: 1}, {0: 1, 2: 1, 5: 1},
              {0: 0, 50: 1, 100: 0}, {0: 1, 4: 1}, {-7: 3, -5: 3, -3: 1})
# Three rings, each of them linked with both others.
THREE = woven([[0, 2, 4], [5, 3, 1], [0, 1], [2, 3], [4, 5]])
HERE = tuple(alternated(drawing, parity) for parity in (0, 1)
             for drawing in (RING, KINK, HOPF, TREFOIL, EIGHT, BORROMEAN, HANDS, NOT_BY_TURNS, way_turned(HOPF, 0),
                             way_turned(HANDS, 0), way_turned(HANDS, 1), way_turned(BORROMEAN, 2),
                             closed_braid(3, [1, 1, 2, 1]), closed_braid(4, [1, 2, 3, 2, 1]),
                             closed_braid(4, [1, 1, 2, 2, 3, 3]), closed_braid(3, [1, 1, 1, 2, 1, 2]),
                             joined_at(TREFOIL, 0, HOPF, 1), closed_braid(2, [1] * 4), closed_braid(2, [1] * 7),
                             THREE, way_turned(THREE, 0), way_turned(way_turned(THREE, 1), 2),
                             woven([[0, 1, 2], [2, 1, 3, 4], [0, 4, 3]]), closed_braid(3, [1, 2, 1, 2, 2, 1, 1, 2])))


def plain_told(drawing):
    """What trees tell, by the words of the document; e by going through all lots of ways."""
    spots = tree_spots(drawing)
    many = len(ways(drawing))
    even = {}
    for bits in range(2 ** max(many - 1, 0)):
        lot = [index for index in range(1, many) if bits >> (index - 1) & 1]
        height = 2 * sum(linking(drawing, one, other) for one in lot for other in range(many) if other not in lot)
        even[height] = even.get(height, 0) + 1
    s, before, found = signature(drawing), 0, {}
    for h in range(-30, 31):
        a = sum(number for (height, _), number in spots.items() if height == h)
        k = a - even.get(h, 0) - before
        for weight, part in ((2 * h - s - 1, (even.get(h, 0) + k, (2,) * before)),
                             (2 * h - s + 1, (even.get(h, 0) + before, ()))):
            if part != (0, ()):
                found[(h, weight)] = part
        before = k
    return found


class HalvedTest(unittest.TestCase):
    def test_by_hand(self):
        for row, told in (({}, {}), ({0: 0}, {}), ({3: 0, 7: 0}, {}), ({-1: 1, 1: 1}, {0: 1}),
                          ({1: 1, 3: 1, 5: 1, 9: -1}, {2: 1, 6: 1, 8: -1}), ({0: 2, 4: -2}, {1: 2, 3: -2}),
                          ({9: -1, 5: 1, 1: 1, 3: 1}, {2: 1, 6: 1, 8: -1}), ({0: 1, 1: 5, 2: 1, 3: 5}, {1: 1, 2: 5}),
                          ({0: 1, 1: 0, 2: 1}, {1: 1}), ({0: 10 ** 30, 2: 10 ** 30}, {1: 10 ** 30}),
                          ({-1000: 1, -998: 1, -996: 0}, {-999: 1}), ({0: 1, 2: 1, 6: -3, 8: -3}, {1: 1, 7: -3})):
            self.assertTrue(same_kinds(halved_row(row), told), row)
            kept = dict(row)
            halved_row(row=row).clear()
            self.assertEqual(list(row.items()), list(kept.items()))

    def test_there_and_back(self):
        chance = random.Random(1)
        for _ in range(100):
            first = chance.randrange(-60, 60)
            told = {first + chance.randrange(0, 97): chance.choice((1, -1, 5, -7)) for _ in range(9)}
            row = {}
            for weight, number in told.items():
                for more in (1, -1):
                    row[weight + more] = row.get(weight + more, 0) + number
            keys = list(row)
            chance.shuffle(keys)
            row = {key: row[key] for key in keys}
            self.assertTrue(same_kinds(halved_row(row), {weight: told[weight] for weight in sorted(told)}))
            row[keys[0]] += 1
            self.assertEqual(told_error(halved_row, row), ("BadTable",))

    def test_width(self):
        wide = {1: 1, 3: 1, 99: 2, 101: 2}
        self.assertEqual(halved_row(wide), {2: 1, 100: 2})
        self.assertEqual(halved_row({0: 0, 100: 0}), {})
        self.assertEqual(halved_row({-50: 1, -48: 1, 50: 0}), {-49: 1})
        for row in ({0: 1, 2: 1, 101: 0}, {0: 1, 101: 1}, {0: 1, 2: 1, 99: 1, 101: 1}, {-1000: 0, 1000: 0}, {0: 0, 101: 0},
                    {-10 ** 9: 1, 10 ** 9: 1}):
            self.assertEqual(told_error(halved_row, row), ("TooMany", 100), row)

    def test_refuses(self):
        for thing in NO_ROWS:
            self.assertEqual(told_error(halved_row, thing), ("BadTable",), thing)
        for row in NOT_HALVED:
            self.assertEqual(told_error(halved_row, row), ("BadTable",), row)
        self.assertEqual(told_error(halved_row, {0: 1, 101: 1, 3: True}), ("BadTable",))
        self.assertEqual(told_error(halved_row, {0: 1, 101: 1, True: 1}), ("BadTable",))

    def test_older_rows(self):
        for drawing in SAMPLES + tuple(goal for _, goal in walk(EIGHT, 3, 8, 4)):
            if way_count(drawing) == 0:
                self.assertEqual(told_error(halved_row, older_row(drawing)), ("BadTable",))
                continue
            told = halved_row(older_row(drawing))
            self.assertTrue(is_ascending(told))
            least = min(told)
            self.assertEqual(abs(sum(-told[w] if (w - least) % 4 == 2 else told[w] for w in told)), determinant(drawing))
            if len(pieces(drawing)) + drawing.rings == 1:
                found = {}
                for (height, weight), many in tree_spots(drawing).items():
                    found[weight] = found.get(weight, 0) + (-1) ** height * many
                self.assertEqual(told, {weight: many for weight, many in found.items() if many})


class ToldByTreesTest(unittest.TestCase):
    def test_by_hand(self):
        goal = {(0, 1): (1, ()), (0, 3): (1, ()), (2, 5): (1, ()), (3, 7): (0, (2,)), (3, 9): (1, ())}
        self.assertTrue(same_kinds(told_by_trees(TREFOIL), goal))
        self.assertTrue(same_kinds(told_by_trees(RING), {(0, -1): (1, ()), (0, 1): (1, ())}))
        self.assertEqual(told_by_trees(KINK), told_by_trees(RING))
        self.assertEqual(told_by_trees(HOPF), {(0, 0): (1, ()), (0, 2): (1, ()), (2, 4): (1, ()), (2, 6): (1, ())})

    def test_whole_rooms(self):
        for drawing in HERE:
            told = told_by_trees(drawing)
            self.assertTrue(same_kinds(told, whole_rooms(drawing)))
            self.assertEqual(told, plain_told(drawing))

    def test_two_lines(self):
        for drawing in HERE:
            s = signature(drawing)
            told = told_by_trees(drawing)
            self.assertTrue(all(weight - 2 * height in (-s - 1, -s + 1) for height, weight in told))
            twists = [twist for _, part in told.values() for twist in part]
            self.assertEqual(set(twists) - {2}, set())
            self.assertEqual(2 * len(twists), determinant(drawing) - 2 ** (way_count(drawing) - 1))
            many = {}
            for (height, _), number in tree_spots(drawing).items():
                many[height] = many.get(height, 0) + number
            goal = {(h, 2 * h - s + more): many[h] for h in many for more in (-1, 1)}
            self.assertEqual(rooms(2, drawing), goal)

    def test_without_idle_crossings(self):
        for drawing in HERE:
            if not idle_crossings(drawing):
                many = {}
                for (height, _), number in tree_spots(drawing).items():
                    many[height] = many.get(height, 0) + number
                self.assertEqual((min(many), max(many)), (-drawing.minus, drawing.plus))
                self.assertEqual((many[-drawing.minus], many[drawing.plus]), (1, 1))

    def test_ten_crossings(self):
        for drawing in (closed_braid(2, [1] * 10), closed_braid(3, [1, -2] * 5)):
            self.assertEqual(told_by_trees(drawing), whole_rooms(drawing))

    def test_refuses(self):
        for drawing in (NOTHING, RINGS, KINK_BACK, TWO_PIECES, NOT_BY_TURNS, HANDS, side_by_side(TREFOIL, LEFT),
                        Drawing(BIG.crossings, 1), closed_braid(2, [1, -1]), closed_braid(2, [1] * 11 + [-1]),
                        Drawing(TREFOIL.crossings, 1)):
            self.assertEqual(told_error(told_by_trees, drawing), ("NotHere",))
        self.assertEqual(told_error(told_by_trees, BIG), ("TooMany", 10))
        for thing in NO_DRAWINGS + NO_NUMBERS:
            self.assertEqual(told_error(told_by_trees, thing), ("BadDrawing", None))
        told_by_trees(drawing=TREFOIL).clear()
        self.assertEqual(len(told_by_trees(TREFOIL)), 5)

    def test_kinks_that_stay_alternate(self):
        for arc in EIGHT.arcs:
            for sign in (1, -1):
                for over in (0, 1):
                    goal = kinked(EIGHT, arc, sign, over)
                    if is_alternate(goal):
                        self.assertEqual(told_by_trees(goal), told_by_trees(EIGHT))


if __name__ == "__main__":
    unittest.main()
