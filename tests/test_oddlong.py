import unittest

from ringcubes.alternates import is_alternate
from ringcubes.braids import closed_braid
from ringcubes.drawings import Drawing, pieces
from ringcubes.oddlong import long_odd_rooms, long_odd_whole
from ringcubes.oddrooms import odd_rooms, odd_whole_rooms
from ringcubes.older import older_row
from ringcubes.shadeforms import determinant
from ringcubes.spans import divisor_chain
from tests.oddworks import plain_odd_rooms
from tests.samples import (BORROMEAN, EIGHT, HOPF, KINK, LEFT, NO_DRAWINGS, NO_NUMBERS, RINGS, SAMPLES, TREFOIL,
                           is_ascending, plain_rings, same_kinds, told_error)
from tests.test_odd import ALL, BIG, NO_ARROWS, arrows_of
from tests.test_rooms import NO_PRIMES
from tests.walks import walk

BY_TURNS = (KINK, HOPF, TREFOIL, LEFT, EIGHT, BORROMEAN, closed_braid(2, [1] * 6), closed_braid(2, [-1] * 7),
            closed_braid(3, [1, 1, -2, 1, -2]), closed_braid(4, [1, -2, 3, -2, 1, -2, 3]), closed_braid(4, [1, -2, 3]))


def at_i(row):
    """The distance from 0 of a row divided by q + 1 / q, at q = the square root of -1."""
    told, rest = {}, dict(row)
    while rest:
        least = min(rest)
        number = rest.pop(least)
        told[least + 1] = number
        rest[least + 2] = rest.get(least + 2, 0) - number
        if not rest[least + 2]:
            del rest[least + 2]
    value = sum(number * 1j ** (weight % 4) for weight, number in told.items())
    return round(abs(value))


class OddLongTest(unittest.TestCase):
    def test_by_hand(self):
        for arc in TREFOIL.arcs:
            told = long_odd_whole(closed_braid(2, [1, 1, 1]), None, closed_braid(2, [1, 1, 1]).arcs[arc])
            self.assertTrue(same_kinds(told, {(0, 2): (1, ()), (2, 6): (1, ()), (3, 8): (1, ())}))
            self.assertTrue(same_kinds(long_odd_rooms(3, TREFOIL, (0, 1, 0), arc), {(0, 2): 1, (2, 6): 1, (3, 8): 1}))

    def test_by_dense_rows(self):
        for drawing in ALL:
            for arc in drawing.arcs[::3]:
                for arrows in arrows_of(drawing)[::4]:
                    def is_long(state):
                        rings = plain_rings(drawing, state[0])
                        return state[1][next(at for at, ring in enumerate(rings) if arc in ring)] == -1
                    goal = plain_odd_rooms(3, drawing, arrows, is_long)
                    told = long_odd_rooms(3, drawing, arrows, arc)
                    self.assertTrue(same_kinds(told, {(i, j + 1): many for (i, j), many in goal.items()}))

    def test_all_rooms_are_told_by_the_long_ones(self):
        for drawing in SAMPLES + (closed_braid(3, [1, 2] * 4),):
            wholes = []
            for arc in drawing.arcs:
                arrows = arrows_of(drawing)[arc % 5]
                told = long_odd_whole(drawing, arrows, arc)
                self.assertTrue(is_ascending(told))
                wholes.append(told)
            for told in wholes:
                self.assertEqual(told, wholes[0])
            if wholes:
                goal = {}
                for (i, j), (free, twists) in wholes[0].items():
                    for spot in ((i, j - 1), (i, j + 1)):
                        more, chain = goal.get(spot, (0, ()))
                        goal[spot] = (more + free, divisor_chain(chain + twists))
                self.assertEqual(odd_whole_rooms(drawing, None), goal)
                for prime in (2, 3):
                    sums = {}
                    for (i, j), many in long_odd_rooms(prime, drawing, None, drawing.arcs[0]).items():
                        for spot in ((i, j - 1), (i, j + 1)):
                            sums[spot] = sums.get(spot, 0) + many
                    self.assertEqual(odd_rooms(prime, drawing, None), sums)

    def test_behind_moves(self):
        for seed in range(8):
            drawing = (TREFOIL, EIGHT, HOPF, KINK)[seed % 4]
            goal = long_odd_whole(drawing, None, drawing.arcs[0])
            for _, moved in walk(drawing, 5, 8, seed + 50):
                if moved.arcs:
                    self.assertEqual(long_odd_whole(moved, arrows_of(moved)[-1], moved.arcs[-1]), goal)

    def test_by_turns(self):
        for drawing in BY_TURNS:
            self.assertTrue(is_alternate(drawing) and len(pieces(drawing)) == 1)
            told = long_odd_whole(drawing, None, drawing.arcs[0])
            self.assertEqual([twists for _, twists in told.values() if twists], [])
            self.assertEqual(len({j - 2 * i for i, j in told}), 1)
            self.assertEqual(sum(free for free, _ in told.values()), determinant(drawing))
            self.assertEqual(at_i(older_row(drawing)), determinant(drawing))

    def test_refuses(self):
        for thing in NO_PRIMES:
            self.assertEqual(told_error(long_odd_rooms, thing, None, 0, None), ("BadPrime",), thing)
        for thing in NO_DRAWINGS:
            self.assertEqual(told_error(long_odd_rooms, 2, thing, 0, None), ("BadDrawing", None))
            self.assertEqual(told_error(long_odd_whole, thing, 0, None), ("BadDrawing", None))
        for thing in NO_ARROWS:
            self.assertEqual(told_error(long_odd_rooms, 2, TREFOIL, thing, None), ("BadArrows",), thing)
            self.assertEqual(told_error(long_odd_whole, TREFOIL, thing, None), ("BadArrows",), thing)
        for thing in (-1, 6, 99) + NO_NUMBERS:
            self.assertEqual(told_error(long_odd_rooms, 2, TREFOIL, None, thing), ("BadArc",), thing)
            self.assertEqual(told_error(long_odd_whole, TREFOIL, None, thing), ("BadArc",), thing)
        self.assertEqual(told_error(long_odd_whole, RINGS, None, 0), ("BadArc",))
        self.assertEqual(told_error(long_odd_whole, BIG, None, 99), ("BadArc",))
        self.assertEqual(told_error(long_odd_whole, BIG, None, BIG.arcs[0]), ("TooMany", 10))
        self.assertEqual(told_error(long_odd_rooms, 2, BIG, None, BIG.arcs[0]), ("TooMany", 10))
        self.assertEqual(long_odd_rooms(arc=0, arrows=None, drawing=KINK, prime=2), {(0, 0): 1})
        self.assertEqual(long_odd_whole(arc=0, arrows=None, drawing=Drawing(KINK.crossings, 1)),
                         {(0, -1): (1, ()), (0, 1): (1, ())})


if __name__ == "__main__":
    unittest.main()
