import itertools
import random
import unittest

from ringcubes.braids import closed_braid
from ringcubes.chains import Chain, chain_of
from ringcubes.drawings import Drawing
from ringcubes.joins import patch_tied
from ringcubes.matchings import matchings, sheets
from ringcubes.patches import Patch, drawing_of, patch_of
from ringcubes.rooms import rooms
from ringcubes.surfaces import put_behind
from tests.patchworks import (CROSS, CROSS_BACK, EMPTY, PATCHES, STRAND, braid_patch, plain_patch_states,
                              plain_patch_step, some_patch)
from tests.samples import (EIGHT, HOPF, KINK_BACK, NO_NUMBERS, SMALL, TREFOIL, plain_rank, plain_spot, plain_states,
                           plain_step, same_kinds, told_error)
from tests.test_matchings import NEAR
from tests.test_patches import NO_LISTS, NO_PATCHES
from tests.test_rooms import NO_PRIMES
from tests.test_surfaces import FLAT, NO_SURFACES, PLAIN, TALL

TWO = (1, 0)
ENTRIES = [(0, 0, FLAT), (1, 1, TALL), (1, 2, FLAT), (2, 3, TALL)]
NO_ENTRIES = (None, 0, (), (0, 0), (0, 0, FLAT, 0), [0, 0, FLAT], (True, 0, FLAT), (0, False, FLAT), (0.0, 0, FLAT),
              (0, "0", FLAT), (None, 0, FLAT), "ab", (0, 0, ()), (0, 0, TWO), (0, 0, None))
NO_STEPS = (None, 0, (), (0, 1), (0, 1, PLAIN, 0), [0, 1, PLAIN], (True, 1, PLAIN), (False, 1, PLAIN), (0, True, PLAIN),
            (0, 4, PLAIN), (4, 1, PLAIN), (-1, 1, PLAIN), (0, -3, PLAIN), ("0", 1, PLAIN), (0.0, 1, PLAIN), (0, 0, PLAIN),
            (0, 3, PLAIN), (1, 0, PLAIN), (1, 2, PLAIN), (2, 1, PLAIN), (3, 0, PLAIN), (0, 1, ()), "abc")


def plain_chain(prime, patch):
    """The entries and steps of a patch's chain by the words of the document."""
    found = plain_patch_states(patch)
    numbers = {state: at for at, (state, _) in enumerate(found)}
    steps = []
    for state, _ in found:
        for goal, (dots, sign) in plain_patch_step(patch, state).items():
            steps.append((numbers[state], numbers[goal], ((dots, sign % prime),)))
    return tuple(entry for _, entry in found), tuple(sorted(steps))


def closed_by(patch, mates):
    """The drawing of a patch whose rim ends are joined outside as a matching tells."""
    places = list(range(len(mates)))
    while places:
        at = next(at for at in range(len(places)) if mates[places[at]] == places[(at + 1) % len(places)])
        patch = patch_tied(patch, at)
        gone = (places[at], places[(at + 1) % len(places)])
        places = [place for place in places if place not in gone]
    return drawing_of(patch)


def rooms_closed(chain, mates):
    """What is left if each entry is closed by a matching: each sheet then may bear a dot or not."""
    basis = {}
    for at, (height, weight, own) in enumerate(chain.entries):
        many = len(sheets(mates, own))
        for bits in itertools.product((0, 1), repeat=many):
            dots = tuple(sheet for sheet, bit in enumerate(bits) if bit)
            basis.setdefault((height, weight + many - 2 * len(dots)), []).append((at, dots))
    ranks, found = {}, {}
    for height, weight in sorted(basis):
        goals = basis.get((height + 1, weight), [])
        rows = []
        for at, dots in basis[(height, weight)]:
            row = dict.fromkeys(goals, 0)
            for i, j, surface in chain.steps:
                if i == at:
                    told = put_behind(chain.prime, mates, chain.entries[i][2], chain.entries[j][2], ((dots, 1),), surface)
                    for more, number in told:
                        row[(j, more)] += number
            rows.append([row[goal] for goal in goals])
        ranks[(height, weight)] = plain_rank(chain.prime, rows)
        many = len(rows) - ranks[(height, weight)] - ranks.get((height - 1, weight), 0)
        if many:
            found[(height, weight)] = many
    return found


class ChainTest(unittest.TestCase):
    def test_attributes(self):
        chain = Chain(3, 4, ENTRIES[:2], [(0, 1, PLAIN)])
        self.assertTrue(same_kinds((chain.prime, chain.places, chain.entries, chain.steps),
                                   (3, 4, ((0, 0, FLAT), (1, 1, TALL)), ((0, 1, PLAIN),))))
        chain = Chain(steps=[], entries=[], places=0, prime=2)
        self.assertTrue(same_kinds((chain.prime, chain.places, chain.entries, chain.steps), (2, 0, (), ())))

    def test_equal(self):
        steps = [(0, 1, PLAIN), (0, 2, (((0,), 1), ((1,), 2))), (2, 3, PLAIN)]
        wide = Chain(3, 4, ENTRIES, steps)
        self.assertTrue(same_kinds(wide.steps, tuple(sorted(steps))))
        for order in itertools.permutations(steps):
            self.assertEqual(Chain(3, 4, tuple(ENTRIES), order), wide)
        self.assertNotEqual(Chain(3, 4, ENTRIES, steps[1:]), wide)
        self.assertNotEqual(Chain(3, 4, ENTRIES[::-1], []), Chain(3, 4, ENTRIES, []))
        self.assertNotEqual(Chain(2, 4, ENTRIES, []), Chain(3, 4, ENTRIES, []))
        self.assertNotEqual(Chain(2, 2, [], []), Chain(2, 4, [], []))
        for thing in (None, 0, (), [], (2, 0, (), ()), EMPTY, Drawing([], 0)):
            self.assertFalse(Chain(2, 0, [], []) == thing)

    def test_later_changes_have_no_effect(self):
        entries, steps = ENTRIES[:2], [(0, 1, PLAIN)]
        chain = Chain(3, 4, entries, steps)
        entries.clear()
        steps.clear()
        self.assertEqual(chain, Chain(3, 4, ENTRIES[:2], [(0, 1, PLAIN)]))

    def test_primes_and_places(self):
        for thing in NO_PRIMES:
            self.assertEqual(told_error(Chain, thing, None, None, None), ("BadPrime",), thing)
        for thing in (-2, -1, 1, 3, 11, 13, 14) + NO_NUMBERS:
            self.assertEqual(told_error(Chain, 3, thing, None, None), ("BadNumber", "places"), thing)
        wide = tuple(at ^ 1 for at in range(12))
        self.assertEqual(Chain(97, 12, [(-5, 10 ** 20, wide)], []).places, 12)

    def test_wrong_entries(self):
        for thing in NO_LISTS:
            self.assertEqual(told_error(Chain, 3, 4, thing, None), ("BadChain", "entries"), thing)
        for thing in NO_ENTRIES:
            self.assertEqual(told_error(Chain, 3, 4, [ENTRIES[0], thing], None), ("BadChain", "entries"), thing)
        for thing in NEAR:
            self.assertEqual(told_error(Chain, 3, 2, [(0, 0, thing)], None), ("BadChain", "entries"), thing)
            if isinstance(thing, tuple) and len(thing) in (4, 6):
                self.assertEqual(told_error(Chain, 3, len(thing), [(0, 0, thing)], None), ("BadChain", "entries"), thing)

    def test_wrong_steps(self):
        for thing in NO_LISTS:
            self.assertEqual(told_error(Chain, 3, 4, ENTRIES, thing), ("BadChain", "steps"), thing)
        for thing in NO_STEPS:
            self.assertEqual(told_error(Chain, 3, 4, ENTRIES, [(0, 1, PLAIN), thing]), ("BadChain", "steps"), thing)
        for thing in NO_SURFACES + ((),):
            self.assertEqual(told_error(Chain, 3, 4, ENTRIES, [(0, 2, thing)]), ("BadChain", "steps"), thing)
        self.assertEqual(told_error(Chain, 3, 4, ENTRIES, [(0, 1, (((1,), 1),))]), ("BadChain", "steps"))
        self.assertEqual(told_error(Chain, 3, 4, ENTRIES, [(0, 1, PLAIN)] * 2), ("BadChain", "steps"))
        self.assertEqual(told_error(Chain, 3, 4, ENTRIES, [(0, 1, PLAIN), (2, 3, PLAIN), (0, 1, (((), 2),))]),
                         ("BadChain", "steps"))
        self.assertEqual(told_error(Chain, 2, 4, ENTRIES, [(0, 1, (((), 2),))]), ("BadChain", "steps"))

    def test_wrong_weights(self):
        for entries, surface in (([(0, 0, FLAT), (1, 0, TALL)], PLAIN), ([(0, 0, FLAT), (1, 2, TALL)], PLAIN),
                                 ([(0, 0, FLAT), (1, -1, TALL)], PLAIN), ([(0, 0, FLAT), (1, 1, TALL)], (((0,), 1),)),
                                 ([(0, 0, FLAT), (1, 2, FLAT)], PLAIN), ([(0, 0, FLAT), (1, 0, FLAT)], (((0,), 1),)),
                                 ([(0, 0, FLAT), (1, 1, FLAT)], PLAIN), ([(0, 0, FLAT), (1, 2, FLAT)], (((), 1), ((0,), 1))),
                                 ([(0, 0, FLAT), (1, 4, FLAT)], (((0, 1), 1), ((1,), 1)))):
            self.assertEqual(told_error(Chain, 3, 4, entries, [(0, 1, surface)]), ("BadChain", "weights"), surface)
        for entries, surface in (([(0, 0, FLAT), (1, 0, FLAT)], PLAIN), ([(0, 7, FLAT), (1, 9, FLAT)], (((1,), 1),)),
                                 ([(0, 0, FLAT), (1, 4, FLAT)], (((0, 1), 2),)), ([(4, 0, TALL), (5, 1, FLAT)], PLAIN),
                                 ([(4, 0, TALL), (5, 3, FLAT)], (((0,), 1),))):
            self.assertEqual(len(Chain(3, 4, entries, [(0, 1, surface)]).steps), 1)

    def test_wrong_twice(self):
        entries = [(0, 0, TWO), (1, 0, TWO), (1, 0, TWO), (2, 0, TWO)]
        square = [(0, 1, PLAIN), (0, 2, PLAIN), (1, 3, PLAIN), (2, 3, (((), 2),))]
        self.assertEqual(len(Chain(3, 2, entries, square).steps), 4)
        self.assertEqual(len(Chain(3, 2, entries, [square[0], square[3]]).steps), 2)
        for wrong in (square[:3], square[:2] + square[2:3] + [(2, 3, PLAIN)], [square[0], square[2]]):
            self.assertEqual(told_error(Chain, 3, 2, entries, wrong), ("BadChain", "twice"))
        self.assertEqual(len(Chain(2, 2, entries, square[:3] + [(2, 3, PLAIN)]).steps), 4)
        # Dots alone are nothing twice, two saddles are not; they are if they come to 0 by the prime.
        dots = [(0, 0, TWO), (1, 2, TWO), (2, 4, TWO)]
        self.assertEqual(len(Chain(3, 2, dots, [(0, 1, (((0,), 1),)), (1, 2, (((0,), 1),))]).steps), 2)
        saddles = [(0, 0, FLAT), (1, 1, TALL), (2, 2, FLAT)]
        self.assertEqual(told_error(Chain, 3, 4, saddles, [(0, 1, PLAIN), (1, 2, PLAIN)]), ("BadChain", "twice"))
        last = (((0,), 1), ((1,), -1 % 3))
        self.assertEqual(len(Chain(3, 4, saddles[:2] + [(2, 3, TALL)], [(0, 1, PLAIN), (1, 2, last)]).steps), 2)
        same = (((0,), 1), ((1,), 1))
        self.assertEqual(told_error(Chain, 3, 4, saddles[:2] + [(2, 3, TALL)], [(0, 1, PLAIN), (1, 2, same)]),
                         ("BadChain", "twice"))
        self.assertEqual(len(Chain(2, 4, saddles[:2] + [(2, 3, TALL)], [(0, 1, PLAIN), (1, 2, same)]).steps), 2)

    def test_first_error(self):
        self.assertEqual(told_error(Chain, 3, 4, [(0, 0, TWO)], [None]), ("BadChain", "entries"))
        self.assertEqual(told_error(Chain, 3, 4, ENTRIES, [(0, 1, (((0,), 1),)), (0, 9, PLAIN)]), ("BadChain", "steps"))
        saddles = [(0, 0, FLAT), (1, 1, TALL), (2, 2, FLAT), (1, 5, TALL)]
        self.assertEqual(told_error(Chain, 3, 4, saddles, [(0, 1, PLAIN), (1, 2, PLAIN), (0, 3, PLAIN)]),
                         ("BadChain", "weights"))


class ChainOfTest(unittest.TestCase):
    def test_by_hand(self):
        chain = chain_of(5, CROSS)
        self.assertTrue(same_kinds((chain.prime, chain.places, chain.entries, chain.steps),
                                   (5, 4, ((0, 1, (1, 0, 3, 2)), (1, 2, (3, 2, 1, 0))), ((0, 1, (((), 1),)),))))
        self.assertTrue(same_kinds(chain_of(2, STRAND).entries, ((0, 0, (1, 0)),)))
        self.assertTrue(same_kinds(chain_of(2, EMPTY).entries, ((0, 0, ()),)))
        self.assertEqual(chain_of(2, Patch([], [], 2)).entries, ((0, -2, ()), (0, 0, ()), (0, 0, ()), (0, 2, ())))
        back = chain_of(5, CROSS_BACK)
        self.assertEqual(back.entries, ((-1, -2, (1, 0, 3, 2)), (0, -1, (3, 2, 1, 0))))

    def test_rings_and_strands(self):
        # A strand with a kink of sign 1: a ring beside the strand is joined to it.
        kink = Patch([(1, 0, 1, 1, 2)], [(0, 1), (2, -1)], 0)
        chain = chain_of(3, kink)
        self.assertEqual(chain.entries, ((0, 0, TWO), (0, 2, TWO), (1, 2, TWO)))
        self.assertEqual(chain.steps, ((0, 2, (((0,), 1),)), (1, 2, (((), 1),))))
        # Of sign -1: the ring is split off.
        kink = Patch([(-1, 0, 1, 1, 2)], [(0, 1), (2, -1)], 0)
        chain = chain_of(3, kink)
        self.assertEqual(chain.entries, ((-1, -2, TWO), (0, -2, TWO), (0, 0, TWO)))
        self.assertEqual(chain.steps, ((0, 1, (((), 1),)), (0, 2, (((0,), 1),))))

    def test_by_the_words_of_the_document(self):
        kinds = {}
        for patch in PATCHES + (braid_patch(2, [1] * 5), braid_patch(3, [1, -2, 1, 2, -1])):
            for prime in (2, 3):
                chain = chain_of(prime, patch)
                self.assertTrue(same_kinds((chain.entries, chain.steps), plain_chain(prime, patch)))
                self.assertEqual((chain.prime, chain.places), (prime, len(patch.rim)))
                self.assertEqual(Chain(prime, chain.places, chain.entries, chain.steps), chain)
                for i, j, surface in chain.steps:
                    kind = (chain.entries[i][2] == chain.entries[j][2], len(surface[0][0]))
                    kinds[kind] = kinds.get(kind, 0) + 1
        self.assertEqual(sorted(kinds), [(False, 0), (True, 0), (True, 1)])

    def test_of_drawings(self):
        for drawing in SMALL:
            for prime in (2, 5):
                chain = chain_of(prime, patch_of(drawing))
                found = plain_states(drawing)
                numbers = {state: at for at, state in enumerate(found)}
                self.assertEqual(chain.entries, tuple(plain_spot(drawing, state) + ((),) for state in found))
                steps = [(numbers[state], numbers[goal], (((), number % prime),)) for state in found
                         for goal, number in plain_step(drawing, state).items()]
                self.assertEqual(chain.steps, tuple(sorted(steps)))

    def test_closed_they_have_the_rooms_of_the_drawing(self):
        found = 0
        for seed, patch in enumerate(PATCHES + tuple(some_patch(seed, 4) for seed in range(30, 50))):
            chance = random.Random(seed)
            if len(patch.crossings) > 4 or len(patch.rim) > 8 or patch.rings > 2:
                continue
            ways = [way for _, way in patch.rim]
            fitting = [mates for mates in matchings(len(ways))
                       if all(ways[at] != ways[mate] for at, mate in enumerate(mates))]
            for mates in chance.sample(fitting, min(2, len(fitting))):
                prime = chance.choice((2, 3))
                found += bool(mates)
                self.assertEqual(rooms_closed(chain_of(prime, patch), mates), rooms(prime, closed_by(patch, mates)))
        self.assertGreater(found, 30)

    def test_eight_crossings(self):
        chain = chain_of(2, braid_patch(3, [1, -2] * 4))
        self.assertEqual(len({entry[0] for entry in chain.entries}), 9)
        self.assertEqual(chain_of(3, patch_of(closed_braid(2, [1] * 8))).places, 0)
        self.assertEqual(len(chain_of(3, braid_patch(2, [1] * 8)).entries), 3281)

    def test_refuses(self):
        nine = braid_patch(2, [1] * 9)
        for thing in NO_PRIMES:
            self.assertEqual(told_error(chain_of, thing, None), ("BadPrime",), thing)
            self.assertEqual(told_error(chain_of, thing, nine), ("BadPrime",), thing)
        for thing in NO_PATCHES + (TREFOIL, EIGHT):
            self.assertEqual(told_error(chain_of, 3, thing), ("BadPatch", None))
        self.assertEqual(told_error(chain_of, 3, nine), ("TooMany", 8))
        self.assertEqual(told_error(chain_of, 3, patch_of(closed_braid(2, [1] * 20))), ("TooMany", 8))
        self.assertEqual(chain_of(patch=patch_of(HOPF), prime=2), chain_of(2, patch_of(HOPF)))
        self.assertEqual(len(chain_of(2, patch_of(KINK_BACK)).entries), 12)


if __name__ == "__main__":
    unittest.main()
