import itertools
import unittest

from ringcubes.alternates import alternated, is_alternate
from ringcubes.braids import closed_braid
from ringcubes.drawings import Drawing, ways
from ringcubes.faces import shades
from ringcubes.makings import side_by_side
from ringcubes.views import way_turned
from ringcubes.webs import web_rows, woven
from tests.samples import (BORROMEAN, EIGHT, HANDS, HOPF, KINK, KINK_BACK, LEFT, LOOSE, NO_DRAWINGS, NO_NUMBERS,
                           NOTHING, RINGS, SAMPLES, TREFOIL, TWO_PIECES, ends_of, same_kinds, told_error)
from tests.walks import walk

WIDE = [list(range(20)), list(range(20))[::-1]]
WIDER = [list(range(21)), list(range(21))[::-1]]
WEBS = ([], [[]], [[], [], []], [[0], [0]], [[0, 0]], [[0, 1], [1, 0]], [[0, 1], [0, 1]], [[0], [0, 1], [1]],
        [[1, 0], [], [0], [1]], [[0, 0, 1, 1]], [[0, 1, 1, 0]], [[0, 1, 2], [2, 1, 0]], [[2, 0, 1], [1, 0, 2]],
        [[0], [0], [1, 1], []], [[0, 1, 1], [0]], [[3, 0, 1], [0, 3, 2], [1, 2]],
        [[0, 2, 1], [0, 3, 4], [1, 5, 3], [2, 4, 5]], [[0, 1, 2], [0, 4, 3], [1, 3, 5], [2, 5, 4]],
        [[0, 1], [2, 3], [1, 0], [3, 2]], ((0, 1), [1, 0]), WIDE)
NOT_PLANE = ([[0, 1, 0, 1]], [[0, 1, 2], [0, 1, 2]], [[], [0, 1, 0, 1], [2], [2]],
             [[0, 1, 2], [0, 3, 4], [1, 5, 3], [2, 4, 5]], [list(range(20)), list(range(20))])
NO_WEBS = NO_NUMBERS[:6] + (b"", {}, {0: [0]}, [0, 0], [0], ["00"], [[0], 0], [[0], None], [[0]], [[0, 0, 0]],
                            [[0], [0], [0]], [[0, 0], [0, 0]], [[1, 1]], [[0, 0], [2, 2]], [[0, 0, 1]], [[1, 0], [1]],
                            [[-1, -1]], [[-1, 0], [0, -1]], [[False, 0]], [[False, False]], [[0, 0, True, True]],
                            [[0, 0, 1, True]], [["0", "0"]], [[0.0, 0]], [[None, None]], [[[0], [0]]], [[(0, 0)]],
                            [[0, 0], [1]], [[10 ** 9, 10 ** 9]], [[]] * 9 + [[0]], [list(range(21))])
ALTERNATE = (NOTHING, RINGS, KINK, KINK_BACK, HOPF, TREFOIL, LEFT, EIGHT, BORROMEAN, way_turned(BORROMEAN, 1),
             side_by_side(TREFOIL, Drawing(LEFT.crossings, 2)), closed_braid(4, [1, -2, 3, -2]), closed_braid(2, [1] * 20),
             alternated(HANDS, 0), alternated(TWO_PIECES, 1), alternated(LOOSE, 1))


def next_spots(rows):
    """For each spot the one that comes next in its node, and its edge."""
    following, edges = [], []
    for node in rows:
        first = len(edges)
        following += [first + (at + 1) % len(node) for at in range(len(node))]
        edges += list(node)
    return following, edges


def is_plane_web(rows):
    """Whether nodes less edges plus faces of the web are two for each piece of it."""
    following, edges = next_spots(rows)
    node_of = [at for at, node in enumerate(rows) for _ in node]
    mates = {spot: far for spot in range(len(edges)) for far in range(len(edges))
             if spot != far and edges[spot] == edges[far]}
    rest, total = set(mates), 0
    while rest:
        start = spot = min(rest)
        total += 1
        while spot in rest:
            rest.discard(spot)
            spot = following[mates[spot]]
        assert spot == start
    pieces = {node: {node} for node in node_of}
    for one, other in mates.items():
        both = pieces[node_of[one]] | pieces[node_of[other]]
        pieces.update({node: both for node in both})
    many = len({min(piece) for piece in pieces.values()})
    return len(pieces) - len(edges) // 2 + total == 2 * many


def turned(row):
    """A row begun with its least part, so that only what goes round counts."""
    return min([tuple(row[at:]) + tuple(row[:at]) for at in range(len(row))], default=())


def is_same_up_to_directions(one, other):
    """Whether names of arcs and directions of ways lead from one to other."""
    for bits in itertools.product((0, 1), repeat=len(ways(one))):
        view = one
        for index in [index for index, bit in enumerate(bits) if bit]:
            # The ways keep their arcs, and so their indexes.
            view = way_turned(view, index)
        if [row[0] for row in view.crossings] != [row[0] for row in other.crossings]:
            continue
        pairs = {pair for near, far in zip(view.crossings, other.crossings) for pair in zip(near[1:], far[1:])}
        if len(pairs) == len(view.arcs) == len(other.arcs):
            return view.rings == other.rings
    return False


class WebRowsTest(unittest.TestCase):
    def test_by_hand(self):
        self.assertTrue(same_kinds(web_rows(NOTHING), ()))
        self.assertTrue(same_kinds(web_rows(RINGS), ((), (), ())))
        self.assertTrue(same_kinds(web_rows(KINK), ((0,), (0,))) or same_kinds(web_rows(KINK), ((0, 0),)))
        self.assertEqual(sorted(map(turned, web_rows(TREFOIL))), [(0, 1, 2), (0, 2, 1)])
        self.assertEqual(web_rows(Drawing(HOPF.crossings, 2)), ((), ()) + web_rows(HOPF))

    def test_of_dark_faces(self):
        for drawing in SAMPLES:
            goal = ((),) * drawing.rings + tuple(tuple(index for index, _ in face) for face in shades(drawing))
            self.assertTrue(same_kinds(web_rows(drawing), goal))

    def test_each_crossing_comes_twice(self):
        for drawing in SAMPLES + tuple(goal for _, goal in walk(EIGHT, 4, 10, 3)):
            told = sorted(index for node in web_rows(drawing) for index in node)
            self.assertEqual(told, [at // 2 for at in range(2 * len(drawing.crossings))])


class WovenTest(unittest.TestCase):
    def test_by_hand(self):
        self.assertTrue(same_kinds(woven([[0], [0]]).crossings, ((1, 0, 1, 1, 0),)))
        self.assertTrue(same_kinds(woven([[0, 0]]).crossings, ((-1, 0, 1, 1, 0),)))
        self.assertEqual(woven([]), NOTHING)
        self.assertEqual(woven(([], (), [])), RINGS)
        self.assertEqual(woven([[], [0], [0]]), Drawing([(1, 0, 1, 1, 0)], 1))
        self.assertEqual(len(ways(woven([[0, 1], [0, 1]]))), 2)
        self.assertEqual(woven(WIDE).plus + woven(WIDE).minus, 20)

    def test_as_told(self):
        for rows in WEBS:
            self.check_woven(rows)

    def check_woven(self, rows):
        """Ends go round each crossing as told, arcs join them as told, each way's least arc goes from o to u."""
        told = woven(rows)
        following, edges = next_spots(rows)
        self.assertEqual(told.rings, sum(1 for node in rows if not node))
        self.assertEqual(told.arcs, tuple(range(len(edges))))
        self.assertEqual(len(told.crossings), len(edges) // 2)
        leading = {behind: ahead for ahead, behind in enumerate(following)}
        for edge, row in enumerate(told.crossings):
            one, other = [spot for spot in range(len(edges)) if edges[spot] == edge]
            goal = [leading[one], one, leading[other], other]
            arcs = [arc for arc, _ in ends_of(row)]
            # The first one of ends_of goes in beneath, so it is the end u of one of both spots.
            self.assertIn(arcs, (goal, goal[2:] + goal[:2]))
        for way in ways(told):
            self.assertIn(way[0], [row[4] for row in told.crossings])
            self.assertIn(way[0], [row[1] for row in told.crossings])

    def test_alternate(self):
        for rows in WEBS:
            told = woven(rows)
            self.assertTrue(is_alternate(told))
            goal = sorted(turned(node) for node in rows)
            self.assertEqual(sorted(turned(node) for node in web_rows(told)), goal)
            many = told.rings
            self.assertEqual(web_rows(told)[:many], ((),) * many)

    def test_there_and_back(self):
        for drawing in ALTERNATE:
            self.assertTrue(is_same_up_to_directions(woven(web_rows(drawing)), drawing))

    def test_not_alternate_ones_become_so(self):
        for drawing in SAMPLES + tuple(goal for _, goal in walk(TREFOIL, 3, 8, 5)):
            self.assertTrue(is_same_up_to_directions(woven(web_rows(drawing)), alternated(drawing, 0)))

    def test_no_webs(self):
        for thing in NO_WEBS:
            self.assertEqual(told_error(woven, thing), ("BadWeb",), thing)

    def test_in_no_plane(self):
        for rows in NOT_PLANE:
            self.assertEqual(told_error(woven, rows), ("BadWeb",), rows)

    def test_by_force(self):
        refused = 0
        for edges in itertools.permutations((0, 0, 1, 1, 2, 2)):
            for cuts in itertools.combinations_with_replacement(range(7), 2):
                rows = [list(edges[:cuts[0]]), list(edges[cuts[0]:cuts[1]]), list(edges[cuts[1]:])]
                if is_plane_web(rows):
                    self.assertEqual(len(woven(rows).crossings), 3)
                else:
                    refused += 1
                    self.assertEqual(told_error(woven, rows), ("BadWeb",), rows)
            if refused > 500:
                break
        self.assertGreater(refused, 500)

    def test_limits(self):
        self.assertEqual(told_error(woven, WIDER), ("TooMany", 20))
        self.assertEqual(told_error(woven, [list(range(21)), list(range(21))]), ("TooMany", 20))
        self.assertEqual(told_error(woven, [[]] * 9 + WIDER), ("TooMany", 20))
        self.assertEqual(woven([[]] * 8).rings, 8)
        self.assertEqual(woven([[]] * 8 + WIDE).rings, 8)
        self.assertEqual(told_error(woven, [[]] * 9), ("TooMany", 8))
        self.assertEqual(told_error(woven, [[]] * 9 + [[0, 1, 0, 1]]), ("TooMany", 8))
        self.assertEqual(told_error(woven, [[]] * 9 + [[0, 0, 0]]), ("BadWeb",))
        self.assertEqual(told_error(woven, WIDER + [[True]]), ("BadWeb",))

    def test_refuses_and_leaves_alone(self):
        for thing in NO_DRAWINGS:
            self.assertEqual(told_error(web_rows, thing), ("BadDrawing", None))
        rows = [[0, 1], [1, 0], []]
        self.assertEqual(woven(rows=rows).rings, 1)
        self.assertEqual(rows, [[0, 1], [1, 0], []])
        self.assertEqual(web_rows(drawing=RINGS), ((), (), ()))


if __name__ == "__main__":
    unittest.main()
