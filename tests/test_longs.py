import unittest
from fractions import Fraction

from ringcubes.braids import closed_braid
from ringcubes.drawings import Drawing, ways
from ringcubes.longs import long_rooms, long_whole
from ringcubes.rooms import rooms, rooms_of
from ringcubes.views import mirrored, renamed
from tests.samples import (BORROMEAN, EIGHT, HOPF, KINK, LEFT, NO_DRAWINGS, NO_NUMBERS, RINGS, SAMPLES, SMALL, TREFOIL,
                           is_ascending, plain_rings, plain_rooms, same_kinds, told_error)
from tests.test_rooms import NO_PRIMES
from tests.walks import walk

BIG = closed_braid(2, [1] * 11)
ONE_WAY = (KINK, TREFOIL, LEFT, EIGHT, closed_braid(3, [1, 2]), closed_braid(2, [1] * 5), closed_braid(2, [-1] * 7),
           closed_braid(3, [1, 1, 1, -2, 1, -2]), closed_braid(3, [1, -2, 1, -2, -2, 1]), closed_braid(4, [1, 2, 3]),
           closed_braid(3, [1, 1, -2, 1, -2, -2]), closed_braid(4, [1, -2, 3, -2, 1, -2, 3]),
           closed_braid(3, [1, 1, 1, 2, -1, 2]), closed_braid(4, [1, 1, 2, -1, -3, 2, -3]))


def determinant(drawing):
    """The determinant of a drawing of one way, by the words of the document."""
    strand_of = {}
    for index, (_, _, arc, _, _) in enumerate(drawing.crossings):
        over = {row[3]: row[4] for row in drawing.crossings}
        strand_of[arc] = index
        while arc in over:
            arc = over[arc]
            strand_of[arc] = index
    many = len(drawing.crossings)
    rows = []
    for _, under_in, under_out, over_in, _ in drawing.crossings:
        row = [0] * many
        row[strand_of[over_in]] += 2
        row[strand_of[under_in]] -= 1
        row[strand_of[under_out]] -= 1
        rows.append(row)
    return abs(by_elimination([row[1:] for row in rows[1:]]))


def by_elimination(rows):
    """A determinant over fractions."""
    rows = [[Fraction(number) for number in row] for row in rows]
    product = Fraction(1)
    for at in range(len(rows)):
        lead = next((row for row in rows[at:] if row[at]), None)
        if lead is None:
            return 0
        if rows.index(lead) != at:
            product = -product
        rows.remove(lead)
        rows.insert(at, lead)
        product *= lead[at]
        for row in rows[at + 1:]:
            times = row[at] / lead[at]
            for place in range(len(row)):
                row[place] -= times * lead[place]
    return product


class LongTest(unittest.TestCase):
    def test_by_hand(self):
        for arc in TREFOIL.arcs:
            self.assertTrue(same_kinds(long_whole(TREFOIL, arc), {(0, 2): (1, ()), (2, 6): (1, ()), (3, 8): (1, ())}))
            for prime in (2, 3, 97):
                self.assertTrue(same_kinds(long_rooms(prime, TREFOIL, arc), {(0, 2): 1, (2, 6): 1, (3, 8): 1}))
        for arc in KINK.arcs:
            self.assertTrue(same_kinds(long_whole(closed_braid(2, [1]), arc), {(0, 0): (1, ())}))
        self.assertEqual(long_rooms(5, HOPF, 0), {(0, 1): 1, (2, 5): 1})
        self.assertEqual(long_whole(closed_braid(3, [1, 2] * 4), 0),
                         {(0, 6): (1, ()), (2, 10): (1, ()), (3, 12): (1, ()), (4, 12): (1, ()), (5, 16): (1, ())})

    def test_rings_beside(self):
        drawing = Drawing(KINK.crossings, 2)
        self.assertEqual(long_whole(drawing, 0), {(0, -2): (1, ()), (0, 0): (2, ()), (0, 2): (1, ())})

    def test_by_dense_rows(self):
        for drawing in SMALL:
            for arc in drawing.arcs[::2]:
                for prime in (2, 3):
                    told = long_rooms(prime, drawing, arc)
                    goal = plain_rooms(prime, drawing, lambda state: is_long(drawing, state, arc))
                    self.assertTrue(same_kinds(told, {(i, j + 1): many for (i, j), many in goal.items()}))
                    self.assertTrue(is_ascending(told))

    def test_rooms_of_whole_ones(self):
        for drawing in SAMPLES:
            for arc in drawing.arcs[:2]:
                whole = long_whole(drawing, arc)
                self.assertTrue(is_ascending(whole))
                for prime in (2, 3, 97):
                    self.assertEqual(rooms_of(prime, whole), long_rooms(prime, drawing, arc))

    def test_arcs_of_one_way(self):
        for drawing in SAMPLES + (closed_braid(3, [1, 1, 2, 2, -1]),):
            for way in ways(drawing):
                told = long_whole(drawing, way[0])
                for arc in way[1:]:
                    self.assertEqual(long_whole(drawing, arc), told)

    def test_over_2_any_arc_will_do(self):
        for drawing in SAMPLES + (closed_braid(3, [1, 1, 2, 2, -1]),):
            found = [long_rooms(2, drawing, arc) for arc in drawing.arcs]
            self.assertTrue(all(told == found[0] for told in found))
            if found:
                twice = {}
                for (i, j), many in found[0].items():
                    for more in (1, -1):
                        twice[(i, j + more)] = twice.get((i, j + more), 0) + many
                self.assertEqual(rooms(2, drawing), twice)

    def test_over_any_prime_some_fall_away(self):
        for drawing in SAMPLES + ONE_WAY:
            for prime in (2, 3, 5):
                for way in ways(drawing):
                    self.check_fallen(drawing, prime, way[0])

    def check_fallen(self, drawing, prime, arc):
        told = long_rooms(prime, drawing, arc)
        own = rooms(prime, drawing)
        fallen = {}
        for i in range(-9, 10):
            for j in range(-30, 31):
                both = told.get((i, j - 1), 0) + told.get((i, j + 1), 0)
                fallen[(i, j)] = both - own.get((i, j), 0) - fallen.get((i - 1, j), 0)
                most = min(told.get((i, j - 1), 0), told.get((i + 1, j + 1), 0))
                self.assertTrue(0 <= fallen[(i, j)] <= most)

    def test_moves_keep_them(self):
        for seed, drawing in enumerate((KINK, TREFOIL, EIGHT, closed_braid(3, [1, 2]))):
            told = long_whole(drawing, 0)
            for _, goal in walk(drawing, 5, 7, seed):
                if goal.arcs:
                    self.assertEqual(long_whole(goal, goal.arcs[-1]), told)

    def test_mirrored(self):
        for drawing in SAMPLES:
            for arc in drawing.arcs[:3]:
                told = long_rooms(3, mirrored(drawing), arc)
                self.assertEqual(told, {(-i, -j): many for (i, j), many in long_rooms(3, drawing, arc).items()})

    def test_few_crossings_of_one_way(self):
        free = 0
        for drawing in ONE_WAY:
            self.assertLessEqual(len(drawing.crossings), 7)
            whole = long_whole(drawing, drawing.arcs[0])
            self.assertTrue(all(twists == () for _, twists in whole.values()))
            self.assertEqual(len({j - 2 * i for i, j in whole}), 1)
            self.assertEqual(sum(many for many, _ in whole.values()), determinant(drawing))
            if whole == {(0, 0): (1, ())}:
                free += 1
        self.assertEqual(free, 3)

    def test_refuses(self):
        for thing in NO_DRAWINGS:
            self.assertEqual(told_error(long_rooms, 4, thing, None), ("BadDrawing", None))
            self.assertEqual(told_error(long_whole, thing, None), ("BadDrawing", None))
        for thing in NO_PRIMES:
            self.assertEqual(told_error(long_rooms, thing, BIG, None), ("BadPrime",), thing)
        for arc in (-1, 6, 99, 100) + NO_NUMBERS:
            self.assertEqual(told_error(long_rooms, 2, TREFOIL, arc), ("BadArc",), arc)
            self.assertEqual(told_error(long_whole, TREFOIL, arc), ("BadArc",), arc)
        self.assertEqual(told_error(long_whole, RINGS, 0), ("BadArc",))
        self.assertEqual(told_error(long_whole, BIG, 99), ("BadArc",))
        self.assertEqual(told_error(long_rooms, 2, BIG, 99), ("BadArc",))
        self.assertEqual(told_error(long_whole, BIG, 0), ("TooMany", 10))
        self.assertEqual(told_error(long_rooms, 2, BIG, 0), ("TooMany", 10))

    def test_names_and_new_dicts(self):
        long_rooms(arc=0, drawing=TREFOIL, prime=3).clear()
        long_whole(arc=0, drawing=TREFOIL).clear()
        self.assertEqual((len(long_rooms(3, TREFOIL, 0)), len(long_whole(TREFOIL, 0))), (3, 3))
        named = renamed(BORROMEAN, {arc: 99 - arc for arc in BORROMEAN.arcs})
        self.assertEqual(long_whole(named, 99), long_whole(BORROMEAN, 0))


def is_long(drawing, state, arc):
    """Whether the ring with an arc has the mark -1."""
    choice, marks = state
    return marks[[arc in ring for ring in plain_rings(drawing, choice)].index(True)] == -1


if __name__ == "__main__":
    unittest.main()
