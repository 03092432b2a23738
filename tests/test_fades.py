import copy
import itertools
import unittest

from ringcubes.braids import closed_braid
from ringcubes.drawings import Drawing, way_count
from ringcubes.fades import exchange_bound, fades, longest_fade, rooms_by_fades
from ringcubes.makings import side_by_side
from ringcubes.ownsums import s_number
from ringcubes.partings import exchanged
from ringcubes.rooms import rooms
from ringcubes.spreads import spread
from tests.plainrules import FEW, MORE, nothing_sums, plain_rule_step
from tests.samples import (BORROMEAN, EIGHT, HOPF, KINK, KINK_BACK, LEFT, LOOSE, NO_DRAWINGS, NOTHING, RING, RINGS,
                           TREFOIL, TWO_PIECES, is_ascending, plain_rank, plain_spot, plain_states, same_kinds,
                           told_error)
from tests.test_ownsums import ONE_WAY
from tests.test_rooms import NO_PRIMES
from tests.test_views import shuffled
from tests.walks import walk

BIG = closed_braid(2, [1] * 11)
TORUS = closed_braid(3, [1, 2] * 5)
NO_FADES = (None, True, 3, "", (), [], [((0, 0), (1, ()))], {0: (1, ())}, {(0,): (1, ())}, {(0, 0, 0): (1, ())},
            {(0, True): (1, ())}, {(False, 0): (1, ())}, {("0", 0): (1, ())}, {(0, 0.0): (1, ())}, {"00": (1, ())},
            {(0, 0): 1}, {(0, 0): None}, {(0, 0): ()}, {(0, 0): (1,)}, {(0, 0): (1, (), ())}, {(0, 0): [1, ()]},
            {(0, 0): (-1, ())}, {(0, 0): (True, ())}, {(0, 0): ("1", ())}, {(0, 0): (1, [])}, {(0, 0): (1, [2])},
            {(0, 0): (1, 2)}, {(0, 0): (1, None)}, {(0, 0): (1, (0,))}, {(0, 0): (1, (-2,))}, {(0, 0): (1, (2, 1))},
            {(0, 0): (1, (1, 3, 2))}, {(0, 0): (1, (True,))}, {(0, 0): (1, ("2",))}, {(0, 0): (1, (2.0,))},
            {(0, 0): (1, ()), (0, 1): (1, (0, 1))}, {(0, 0): (1.0, ())})


class Letters:
    """What the step by the rule (h, 0) leaves, h a letter, each weight by itself, by dense rows."""

    def __init__(self, prime, drawing):
        self.prime = prime
        self.spots = {state: plain_spot(drawing, state) for state in plain_states(drawing)}
        # Each power of the letter is told by the weights of both states.
        self.steps = {state: plain_rule_step(prime, (1, 0), drawing, state) for state in self.spots}

    def basis(self, height, weight):
        """The states that, times a power of the letter, are of this height and weight."""
        return [state for state, (i, j) in self.spots.items() if i == height and j >= weight and (j - weight) % 2 == 0]

    def rows(self, height, weight, goals):
        """The rows of the step from there to goals."""
        return [[self.steps[state].get(goal, 0) for goal in goals] for state in self.basis(height, weight)]

    def rank(self, height, weight, power):
        """How many things of this height and weight are left, independent, times a power of the letter."""
        here, there = self.basis(height, weight), self.basis(height, weight - 2 * power)
        rows = self.rows(height, weight, self.basis(height + 1, weight))
        made = self.rows(height - 1, weight - 2 * power, there)
        led = []
        for row in nothing_sums(self.prime, rows, len(here)):
            number_of = dict(zip(here, row))
            led.append([number_of.get(state, 0) for state in there])
        return plain_rank(self.prime, made + led) - plain_rank(self.prime, made)

    def fades(self):
        """The dict that fades would be."""
        found = {}
        weights = sorted({j for _, j in self.spots.values()})
        far = (weights[-1] - weights[0]) // 2 + 1
        for height, weight in sorted(set(self.spots.values())):
            born = [self.rank(height, weight, k) - self.rank(height, weight + 2, k + 1) for k in range(far + 1)]
            lengths = tuple(k for k in range(1, far + 1) for _ in range(born[k - 1] - born[k]))
            if born[far] or lengths:
                found[(height, weight)] = (born[far], lengths)
        return found


class FadesTest(unittest.TestCase):
    def test_by_hand(self):
        drawing = closed_braid(2, [1, 1, 1])
        self.assertTrue(same_kinds(fades(2, drawing), {(0, 1): (1, ()), (0, 3): (1, ()), (3, 7): (0, (1,)),
                                                       (3, 9): (0, (1,))}))
        for prime in (3, 5, 97):
            self.assertTrue(same_kinds(fades(prime, drawing), {(0, 1): (1, ()), (0, 3): (1, ()), (3, 9): (0, (2,))}))
        self.assertTrue(same_kinds(fades(3, LEFT), {(-2, -5): (0, (2,)), (0, -3): (1, ()), (0, -1): (1, ())}))
        self.assertTrue(same_kinds(fades(2, RINGS), {(0, -3): (1, ()), (0, -1): (3, ()), (0, 1): (3, ()), (0, 3): (1, ())}))
        self.assertTrue(same_kinds(fades(2, NOTHING), {(0, 0): (1, ())}))
        self.assertEqual(fades(3, Drawing(drawing.crossings, 1)),
                         {(0, 0): (1, ()), (0, 2): (2, ()), (0, 4): (1, ()), (3, 8): (0, (2,)), (3, 10): (0, (2,))})
        self.assertEqual(fades(2, TORUS)[(5, 19)], (0, (2,)))

    def test_by_the_words_of_the_document(self):
        for drawing in FEW:
            for prime in (2, 3):
                told = fades(prime, drawing)
                self.assertTrue(same_kinds(told, Letters(prime, drawing).fades()))

    def test_unlike_lengths(self):
        told = fades(2, closed_braid(3, [1, 2] * 4))
        self.assertEqual({length for _, lengths in told.values() for length in lengths}, {1, 2})
        several = fades(2, side_by_side(TREFOIL, TREFOIL))
        self.assertTrue(any(len(lengths) > 1 for _, lengths in several.values()))

    def test_free_parts_and_rooms(self):
        for drawing in MORE + ONE_WAY:
            for prime in (2, 3, 5):
                told = fades(prime, drawing)
                self.assertTrue(is_ascending(told))
                self.assertTrue(all(part != (0, ()) for part in told.values()))
                free = {spot: part[0] for spot, part in told.items() if part[0]}
                self.assertEqual(free, spread(prime, (1, 0), drawing))
                self.assertTrue(same_kinds(rooms_by_fades(told), rooms(prime, drawing)))
                if prime != 2:
                    self.assertTrue(all(length % 2 == 0 for _, lengths in told.values() for length in lengths))

    def test_moves_keep_them(self):
        for seed, drawing in enumerate((HOPF, TREFOIL, EIGHT, KINK_BACK, LOOSE, BORROMEAN)):
            for prime in (2, 3):
                told = fades(prime, drawing)
                for _, goal in walk(drawing, 4, 8, seed):
                    self.assertEqual(fades(prime, goal), told)
                self.assertEqual(fades(prime, shuffled(drawing, seed)), told)

    def test_longest(self):
        for drawing, over_two, over_three in ((NOTHING, 0, 0), (RINGS, 0, 0), (KINK, 0, 0), (HOPF, 0, 0), (TREFOIL, 1, 2),
                                              (LEFT, 1, 2), (EIGHT, 1, 2), (closed_braid(3, [1, 2]), 0, 0),
                                              (TORUS, 2, 2), (TWO_PIECES, 0, 0)):
            self.assertTrue(same_kinds(longest_fade(2, drawing), over_two))
            self.assertTrue(same_kinds(longest_fade(3, drawing), over_three))
        for drawing in MORE:
            for prime in (2, 5):
                lengths = [length for _, part in fades(prime, drawing).values() for length in part]
                self.assertEqual(longest_fade(prime, drawing), max(lengths, default=0))

    def test_refuses(self):
        for call in (fades, longest_fade):
            for thing in NO_PRIMES:
                self.assertEqual(told_error(call, thing, None), ("BadPrime",), thing)
            for thing in NO_DRAWINGS:
                self.assertEqual(told_error(call, 3, thing), ("BadDrawing", None))
            self.assertEqual(told_error(call, 3, BIG), ("TooMany", 10))
        fades(drawing=TREFOIL, prime=3).clear()
        self.assertEqual((len(fades(3, TREFOIL)), longest_fade(drawing=TREFOIL, prime=3)), (3, 2))


class RoomsByFadesTest(unittest.TestCase):
    def test_by_hand(self):
        for told, goal in (({}, {}), ({(0, 0): (0, ())}, {}), ({(0, 0): (2, ())}, {(0, 0): 2}),
                           ({(3, 9): (0, (2,))}, {(2, 5): 1, (3, 9): 1}), ({(3, 9): (1, (1, 1, 3))},
                                                                           {(2, 3): 1, (2, 7): 2, (3, 9): 4}),
                           ({(1, 2): (1, (1,)), (0, 0): (1, (1,))}, {(-1, -2): 1, (0, 0): 3, (1, 2): 2}),
                           ({(1, 2): (0, (7,)), (0, 0): (0, ())}, {(0, -12): 1, (1, 2): 1})):
            kept = copy.deepcopy(told)
            self.assertTrue(same_kinds(rooms_by_fades(told), goal), told)
            rooms_by_fades(told=told).clear()
            self.assertTrue(same_kinds(told, kept))

    def test_refuses(self):
        for thing in NO_FADES:
            self.assertEqual(told_error(rooms_by_fades, thing), ("BadTable",), thing)


class ExchangeBoundTest(unittest.TestCase):
    def test_by_hand(self):
        for drawing, told in ((closed_braid(2, [1, 1, 1]), (1, 1)), (RING, (0, 0)), (KINK, (0, 0)), (EIGHT, (1, 1)),
                              (closed_braid(2, [1] * 7), (3, 3)), (closed_braid(2, [-1] * 7), (3, 3)), (TORUS, (4, 4)),
                              (closed_braid(3, [1, 2]), (0, 0)), (closed_braid(3, [1, 1, 1, -2, 1, -2]), (1, 1))):
            self.assertTrue(same_kinds((exchange_bound(2, drawing), exchange_bound(3, drawing)), told))

    def test_by_both_numbers(self):
        for drawing in ONE_WAY:
            for prime in (2, 3, 5):
                half = abs(s_number(prime, drawing)) // 2
                length = longest_fade(prime, drawing)
                goal = max(half, length if prime == 2 else max(0, length - 1))
                self.assertEqual(exchange_bound(prime, drawing), goal)

    def test_exchanges(self):
        for drawing in ONE_WAY:
            for index in range(len(drawing.crossings)):
                told = exchanged(drawing, index)
                self.assertLessEqual(abs(longest_fade(2, told) - longest_fade(2, drawing)), 1)
                self.assertLessEqual(abs(longest_fade(3, told) - longest_fade(3, drawing)), 2)

    def test_a_ring_by_exchanges(self):
        # What goes over each crossing first and then under it is free: as many exchanges as that takes will do.
        for word in list(itertools.product((1, -1, 2, -2), repeat=5))[::7]:
            drawing = closed_braid(3, word)
            if way_count(drawing) == 1:
                met = crossings_met(drawing)
                wrong = [index for at, (index, over) in enumerate(met) if not over and (index, True) not in met[:at]]
                for prime in (2, 3):
                    self.assertLessEqual(exchange_bound(prime, drawing), len(wrong))

    def test_refuses(self):
        for thing in NO_PRIMES:
            self.assertEqual(told_error(exchange_bound, thing, None), ("BadPrime",), thing)
        for thing in NO_DRAWINGS:
            self.assertEqual(told_error(exchange_bound, 3, thing), ("BadDrawing", None))
        for drawing in (NOTHING, RINGS, HOPF, KINK_BACK, closed_braid(2, [1] * 20)):
            self.assertEqual(told_error(exchange_bound, 3, drawing), ("NotOne",))
        self.assertEqual(told_error(exchange_bound, 3, BIG), ("TooMany", 10))
        self.assertEqual(exchange_bound(drawing=TREFOIL, prime=2), 1)


def crossings_met(drawing):
    """The crossings as the one way meets them, with whether it goes over there."""
    met, arc = [], drawing.arcs[0]
    for _ in range(2 * len(drawing.crossings)):
        index, row = next((index, row) for index, row in enumerate(drawing.crossings) if arc in (row[1], row[3]))
        met.append((index, arc == row[3]))
        arc = row[4] if arc == row[3] else row[2]
    return met


if __name__ == "__main__":
    unittest.main()
