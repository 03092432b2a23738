import unittest

from ringcubes.braids import closed_braid
from ringcubes.drawings import Drawing, pieces, way_count, ways
from ringcubes.older import older_row
from ringcubes.partings import exchanged, parted, ring_ranks
from ringcubes.rooms import rooms
from ringcubes.views import alike, mirrored, way_turned
from tests.samples import (BORROMEAN, EIGHT, HANDS, HOPF, KINK, KINK_BACK, NO_DRAWINGS, NO_NUMBERS, RING, RINGS,
                           SAMPLES, SMALL, TREFOIL, TWO_PIECES, is_ascending, joined, plain_rank, plain_spot,
                           plain_states, plain_step, same_kinds, told_error)
from tests.test_rooms import NO_PRIMES

BIG = closed_braid(2, [1] * 11)
MANY = SAMPLES + (closed_braid(3, [1, 1, -2, 1, 2]), way_turned(HOPF, 0), way_turned(HANDS, 1),
                  way_turned(BORROMEAN, 2), closed_braid(3, [1, 2, -1]))


def moved(told, height, weight):
    """Rooms with a height and a weight more."""
    return {(i + height, j + weight): many for (i, j), many in told.items()}


def turned_arcs(drawing, row):
    """The arcs that are turned round where the choice keeps not all directions."""
    goes_on = {}
    for _, under_in, under_out, over_in, over_out in drawing.crossings:
        goes_on[under_in], goes_on[over_in] = under_out, over_out
    turned = [row[2]]
    while turned[-1] not in (row[1], row[3]):
        turned.append(goes_on[turned[-1]])
    if turned[-1] == row[1]:
        return [way for way in ways(drawing) if row[3] in way][0]
    return turned


class PartedTest(unittest.TestCase):
    def test_by_hand(self):
        for crossing in range(3):
            (one, height, weight), (other, other_height, other_weight) = parted(closed_braid(2, [1, 1, 1]), crossing)
            self.assertTrue(same_kinds([height, weight, other_height, other_weight], [0, 1, 3, 8]))
            self.assertTrue(alike(one, closed_braid(2, [1, 1])))
            self.assertEqual([row[0] for row in other.crossings], [-1, -1])
            self.assertEqual(way_count(other), 1)
            for index in (0, 1):
                self.assertTrue(alike(parted(other, index)[1][0], Drawing([(-1, 0, 1, 1, 0)], 1))
                                or alike(parted(other, index)[0][0], Drawing([(-1, 0, 1, 1, 0)], 0)))
        self.assertEqual(parted(KINK, 0), ((Drawing([], 2), 0, 1), (RING, 1, 2)))
        self.assertEqual(parted(KINK_BACK, 0), ((Drawing([], 2), -1, -2), (Drawing([], 3), 0, -1)))

    def test_two_kinks(self):
        one, other = parted(closed_braid(2, [1, 1]), 0)
        self.assertTrue(alike(one[0], KINK))
        self.assertTrue(alike(other[0], Drawing([(-1, 0, 1, 1, 0)], 0)))
        self.assertEqual((one[1:], other[1:]), ((0, 1), (2, 5)))

    def test_states_are_states(self):
        for drawing in MANY:
            for crossing in range(len(drawing.crossings)):
                for bit, (told, height, weight) in enumerate(parted(drawing, crossing)):
                    self.check_states(drawing, crossing, bit, told, height, weight)

    def check_states(self, drawing, crossing, bit, told, height, weight):
        """Each choice gives as many rings, and each state its height and weight; signs of rows are the same."""
        self.assertEqual(len(told.crossings), len(drawing.crossings) - 1)
        self.assertEqual(height, bit + told.minus - drawing.minus)
        self.assertEqual(weight, bit + drawing.plus - told.plus - 2 * (drawing.minus - told.minus))
        found, goals = {}, {}
        for state in plain_states(drawing):
            if state[0][crossing] == bit:
                rest = state[0][:crossing] + state[0][crossing + 1:]
                spot = plain_spot(drawing, state)
                key = (rest, spot[0] - height, spot[1] - weight)
                found[key] = found.get(key, 0) + 1
        for state in plain_states(told):
            key = (state[0],) + plain_spot(told, state)
            goals[key] = goals.get(key, 0) + 1
        self.assertEqual(found, goals)

    def test_arcs_and_directions(self):
        for drawing in MANY:
            for crossing in range(len(drawing.crossings)):
                for bit, (told, _, _) in enumerate(parted(drawing, crossing)):
                    self.check_arcs(drawing, crossing, bit, told)

    def check_arcs(self, drawing, crossing, bit, told):
        """The arcs of what is told are the lots of arcs that are joined; turned strands go in where they went out."""
        row = drawing.crossings[crossing]
        lots = {arc: {arc} for arc in drawing.arcs}
        for one, other in joined(row, bit):
            both = lots[one] | lots[other]
            lots.update({arc: both for arc in both})
        turned = [] if (row[0] == 1) == (bit == 0) else turned_arcs(drawing, row)
        names = {}
        rest = drawing.crossings[:crossing] + drawing.crossings[crossing + 1:]
        for (sign, a, b, c, d), goal in zip(rest, told.crossings):
            if (a in turned) != (c in turned):
                sign = -sign
            if a in turned:
                a, b = b, a
            if c in turned:
                c, d = d, c
            self.assertEqual(goal[0], sign)
            for arc, name in zip((a, b, c, d), goal[1:]):
                self.assertEqual(names.setdefault(frozenset(lots[arc]), name), name)
        self.assertEqual(len(set(names.values())), len(names))
        self.assertEqual(told.rings, drawing.rings + len({frozenset(lot) for lot in lots.values()}) - len(names))

    def test_ways_turned_round_give_the_same(self):
        # The rings of each choice are the same for all directions, and so are the drawings up to directions.
        for drawing in (HOPF, HANDS, BORROMEAN):
            for crossing in range(len(drawing.crossings)):
                one = parted(drawing, crossing)
                other = parted(way_turned(drawing, 0), crossing)
                changed = drawing.crossings[crossing][0] != way_turned(drawing, 0).crossings[crossing][0]
                for bit in (0, 1):
                    near, far = one[bit][0], other[bit][0]
                    views = [near]
                    for index in range(len(ways(near))):
                        views += [way_turned(view, index) for view in views]
                    self.assertTrue(any(alike(view, far) for view in views), changed)

    def test_rings_that_come(self):
        rows = closed_braid(2, [-1]).crossings
        self.assertEqual([triple[0].rings for triple in parted(Drawing(rows, 6), 0)], [7, 8])
        self.assertEqual(told_error(parted, Drawing(rows, 7), 0), ("TooMany", 8))
        self.assertEqual(told_error(parted, Drawing(KINK.crossings, 7), 0), ("TooMany", 8))
        self.assertEqual(told_error(parted, Drawing(KINK.crossings, 8), 0), ("TooMany", 8))
        self.assertEqual(told_error(parted, Drawing(TREFOIL.crossings, 8), 0), None)
        self.assertEqual(told_error(parted, Drawing(TREFOIL.crossings, 8), 3), ("BadCrossing",))
        self.assertEqual([len(triple[0].crossings) for triple in parted(closed_braid(2, [1] * 20), 19)], [19, 19])

    def test_refuses(self):
        for thing in (-1, 3, 99) + NO_NUMBERS:
            self.assertEqual(told_error(parted, TREFOIL, thing), ("BadCrossing",), thing)
            self.assertEqual(told_error(exchanged, TREFOIL, thing), ("BadCrossing",), thing)
        for thing in NO_DRAWINGS:
            self.assertEqual(told_error(parted, thing, None), ("BadDrawing", None))
            self.assertEqual(told_error(exchanged, thing, None), ("BadDrawing", None))
        self.assertEqual(told_error(parted, RINGS, 0), ("BadCrossing",))
        told = parted(crossing=0, drawing=TREFOIL)
        self.assertIsInstance(told, tuple)
        self.assertTrue(all(isinstance(triple, tuple) and len(triple) == 3 for triple in told))


class ExchangedTest(unittest.TestCase):
    def test_by_hand(self):
        self.assertTrue(same_kinds(exchanged(HOPF, 1).crossings, ((1, 1, 2, 0, 3), (-1, 2, 1, 3, 0))))
        self.assertEqual(exchanged(crossing=0, drawing=KINK_BACK), Drawing([(1, 1, 0, 0, 1)], 1))
        self.assertTrue(alike(exchanged(closed_braid(3, [1, -2, 1]), 1), closed_braid(3, [1, 2, 1])))

    def test_twice_is_back(self):
        for drawing in SAMPLES:
            goal = drawing
            for crossing in range(len(drawing.crossings)):
                self.assertEqual(exchanged(exchanged(drawing, crossing), crossing), drawing)
                self.assertEqual(exchanged(drawing, crossing).rings, drawing.rings)
                goal = exchanged(goal, crossing)
            self.assertEqual(goal, mirrored(drawing))

    def test_older_rows(self):
        for drawing in MANY:
            for crossing, row in enumerate(drawing.crossings):
                one = drawing if row[0] == 1 else exchanged(drawing, crossing)
                other = exchanged(one, crossing)
                kept = parted(one, crossing)[0][0]
                rows = [older_row(told) for told in (one, other, kept)]
                for w in range(-30, 31):
                    self.assertEqual(rows[0].get(w + 2, 0) - rows[1].get(w - 2, 0),
                                     rows[2].get(w + 1, 0) - rows[2].get(w - 1, 0))

    def test_rooms(self):
        for drawing in (HOPF, TREFOIL, EIGHT, closed_braid(3, [1, 1, -2, 1, 2])):
            for crossing, row in enumerate(drawing.crossings):
                one = drawing if row[0] == 1 else exchanged(drawing, crossing)
                other = exchanged(one, crossing)
                first, height, weight = parted(one, crossing)[0]
                k = moved(rooms(3, first), height, weight)
                second, height, weight = parted(other, crossing)[1]
                m = moved(rooms(3, second), height, weight)
                near, far = rooms(3, one), rooms(3, other)
                for i in range(-8, 8):
                    for j in range(-20, 21):
                        less = near.get((i + 2, j + 4), 0) - far.get((i, j), 0)
                        self.assertLessEqual(less, k.get((i + 2, j + 4), 0) + m.get((i + 1, j), 0))
                        self.assertGreaterEqual(less, -k.get((i + 1, j + 4), 0) - m.get((i, j), 0))


class RingRanksTest(unittest.TestCase):
    def test_by_hand(self):
        for prime in (2, 3, 97):
            self.assertTrue(same_kinds(ring_ranks(prime, closed_braid(2, [1]), 0), {(0, 1): 1, (0, 3): 1}))
        one, other = parted(closed_braid(2, [1]), 0)
        self.assertEqual((one, other), ((Drawing([], 2), 0, 1), (RING, 1, 2)))
        # A ring beside and one with a kink of sign -1: each of both marks is split, whatever the mark beside.
        self.assertEqual(ring_ranks(3, KINK_BACK, 0), {(-1, -4): 1, (-1, -2): 2, (-1, 0): 1})

    def test_by_the_words_of_the_document(self):
        for drawing in SMALL:
            for crossing in range(len(drawing.crossings)):
                for prime in (2, 3):
                    told = ring_ranks(prime, drawing, crossing)
                    self.assertTrue(same_kinds(told, plain_ring_ranks(prime, drawing, crossing)))
                    self.assertTrue(is_ascending(told))

    def test_the_ring_of_three_rooms(self):
        for drawing in MANY + (closed_braid(3, [1, -2, 1, 2, 2, -1, 2]),):
            for crossing in range(len(drawing.crossings)):
                for prime in (2, 3):
                    self.check_ring(prime, drawing, crossing)

    def check_ring(self, prime, drawing, crossing):
        parts = [moved(rooms(prime, told), height, weight) for told, height, weight in parted(drawing, crossing)]
        ranks = ring_ranks(prime, drawing, crossing)
        found = {}
        for i in range(-12, 13):
            for j in range(-40, 41):
                many = (parts[0].get((i, j), 0) - ranks.get((i, j), 0) + parts[1].get((i, j), 0)
                        - ranks.get((i - 1, j), 0))
                if many:
                    found[(i, j)] = many
        self.assertEqual(found, rooms(prime, drawing))
        less = sum(sum(part.values()) for part in parts) - sum(found.values())
        self.assertTrue(less >= 0 and less % 2 == 0)

    def test_refuses(self):
        for thing in NO_PRIMES:
            self.assertEqual(told_error(ring_ranks, thing, None, None), ("BadPrime",), thing)
            self.assertEqual(told_error(ring_ranks, thing, BIG, 99), ("BadPrime",), thing)
        for thing in NO_DRAWINGS:
            self.assertEqual(told_error(ring_ranks, 2, thing, None), ("BadDrawing", None))
        for thing in (-1, 11, 99) + NO_NUMBERS:
            self.assertEqual(told_error(ring_ranks, 2, BIG, thing), ("BadCrossing",), thing)
        self.assertEqual(told_error(ring_ranks, 2, BIG, 0), ("TooMany", 10))
        self.assertEqual(told_error(ring_ranks, 2, RINGS, 0), ("BadCrossing",))
        ring_ranks(crossing=0, drawing=KINK, prime=2).clear()
        self.assertEqual(len(ring_ranks(2, KINK, 0)), 2)

    def test_pieces_and_states_are_as_before(self):
        kept = (TWO_PIECES.crossings, TWO_PIECES.rings)
        ring_ranks(2, TWO_PIECES, 3)
        parted(TWO_PIECES, 3)
        self.assertEqual((TWO_PIECES.crossings, TWO_PIECES.rings), kept)
        self.assertEqual(len(pieces(parted(TWO_PIECES, 0)[0][0])), 2)


def plain_ring_ranks(prime, drawing, crossing):
    """The ring ranks by the words of the document: sums that other edges lead to 0, led along those of the crossing."""
    spots = {}
    for state in plain_states(drawing):
        spots.setdefault(plain_spot(drawing, state), []).append(state)
    found = {}
    for (height, weight), here in sorted(spots.items()):
        goals = spots.get((height + 1, weight), [])
        zero = [state for state in here if state[0][crossing] == 0]
        one = [state for state in here if state[0][crossing] == 1]
        zero_goals = [goal for goal in goals if goal[0][crossing] == 0]
        one_goals = [goal for goal in goals if goal[0][crossing] == 1]
        led = [plain_step(drawing, state) for state in zero]
        kernel = kernel_rows(prime, [[row.get(goal, 0) for goal in zero_goals] for row in led], len(zero))
        across = [[row.get(goal, 0) for goal in one_goals] for row in led]
        made = [[plain_step(drawing, state).get(goal, 0) for goal in one_goals] for state in one]
        rows = [[sum(times * row[at] for times, row in zip(sums, across)) for at in range(len(one_goals))]
                for sums in kernel]
        many = plain_rank(prime, made + rows) - plain_rank(prime, made) if one_goals else 0
        if many:
            found[(height, weight)] = many
    return found


def kernel_rows(prime, rows, many):
    """A basis of the sums of so many things that rows lead to 0 modulo a prime."""
    rows = [list(row) + [int(at == to) for to in range(many)] for at, row in enumerate(rows)]
    wide = len(rows[0]) - many if rows else 0
    done = 0
    for column in range(wide):
        lead = next((row for row in rows[done:] if row[column] % prime), None)
        if lead is None:
            continue
        rows.remove(lead)
        rows.insert(done, lead)
        over = pow(lead[column], -1, prime)
        for row in rows[done + 1:]:
            times = row[column] * over
            for at in range(len(row)):
                row[at] = (row[at] - times * lead[at]) % prime
        done += 1
    return [row[wide:] for row in rows[done:]]


if __name__ == "__main__":
    unittest.main()
