import itertools
import random
import unittest

from ringcubes.braids import closed_braid
from ringcubes.chains import Chain, chain_of
from ringcubes.drawings import Drawing
from ringcubes.errors import RingError
from ringcubes.gluing import (chain_beside, chain_mirrored, chain_tied, chain_turned, patch_numbers, rooms_glued)
from ringcubes.joins import patch_beside, patch_mirrored, patch_tied, patch_turned
from ringcubes.leastpapers import least_paper
from ringcubes.leasts import least_numbers
from ringcubes.makings import side_by_side
from ringcubes.patches import Patch, patch_of
from ringcubes.rooms import rooms
from ringcubes.twists import twist_row
from ringcubes.views import mirrored
from tests.chainworks import PLAIN, mixed, plain_tied, some_chains
from tests.patchworks import (CROSS, CROSS_BACK, EMPTY, KINKED, PATCHES, STRAND, braid_patch, plain_sheets, some_patch)
from tests.samples import (EIGHT, KINK, NO_DRAWINGS, NO_NUMBERS, SAMPLES, TREFOIL, is_ascending, same_kinds, told_error)
from tests.test_leasts import FLAT, NO_CHAINS, TALL, TWO
from tests.test_patches import NO_PATCHES
from tests.test_rooms import NO_PRIMES
from tests.walks import moves_let, touched_arcs, walk

CHAINS = some_chains(40)


def parts_of(chain):
    """All attributes of a chain."""
    return chain.prime, chain.places, chain.entries, chain.steps


def plain_beside(one, other):
    """The entries and steps of two chains side by side, by the words of the document."""
    entries, at = [], {}
    for (i, here), (k, there) in itertools.product(enumerate(one.entries), enumerate(other.entries)):
        at[(i, k)] = len(entries)
        mates = here[2] + tuple(mate + one.places for mate in there[2])
        entries.append((here[0] + there[0], here[1] + there[1], mates))
    steps = []
    for i, j, surface in one.steps:
        steps += [(at[(i, k)], at[(j, k)], surface) for k in range(len(other.entries))]
    for k, l, surface in other.steps:
        for i, (height, _, mates) in enumerate(one.entries):
            shift = len(plain_sheets(mates, mates))
            told = tuple((tuple(dot + shift for dot in dots), number * (-1) ** (height % 2) % one.prime)
                         for dots, number in surface)
            steps.append((at[(i, k)], at[(i, l)], told))
    return one.prime, one.places + other.places, tuple(entries), tuple(sorted(steps))


def plain_turned(chain, many):
    """The entries and steps of a chain with the place many first, by the words of the document."""
    wide = chain.places
    name = {(place + many) % wide: place for place in range(wide)}
    entries = []
    for height, weight, mates in chain.entries:
        told = [0] * wide
        for place, mate in enumerate(mates):
            told[name[place]] = name[mate]
        entries.append((height, weight, tuple(told)))
    steps = []
    for i, j, surface in chain.steps:
        old = plain_sheets(chain.entries[i][2], chain.entries[j][2])
        new = [set(sheet) for sheet in plain_sheets(entries[i][2], entries[j][2])]
        rows = sorted((tuple(sorted(new.index({name[place] for place in old[dot]}) for dot in dots)), number)
                      for dots, number in surface)
        steps.append((i, j, tuple(rows)))
    return chain.prime, wide, tuple(entries), tuple(sorted(steps))


class BesideTest(unittest.TestCase):
    def test_by_hand(self):
        told = chain_beside(chain_of(5, CROSS), chain_of(5, CROSS))
        self.assertTrue(same_kinds(told.entries, (
            (0, 2, (1, 0, 3, 2, 5, 4, 7, 6)), (1, 3, (1, 0, 3, 2, 7, 6, 5, 4)),
            (1, 3, (3, 2, 1, 0, 5, 4, 7, 6)), (2, 4, (3, 2, 1, 0, 7, 6, 5, 4)))))
        self.assertTrue(same_kinds(told.steps, ((0, 1, PLAIN), (0, 2, PLAIN), (1, 3, PLAIN), (2, 3, (((), 4),)))))
        one = Chain(3, 2, [(0, 0, TWO)], [])
        dot = Chain(3, 2, [(0, 0, TWO), (1, 2, TWO)], [(0, 1, (((0,), 2),))])
        self.assertEqual(chain_beside(one, dot).steps, ((0, 1, (((1,), 2),)),))
        self.assertEqual(chain_beside(dot, one).steps, ((0, 1, (((0,), 2),)),))

    def test_by_the_words_of_the_document(self):
        found = 0
        for seed, one in enumerate(CHAINS):
            for other in (CHAINS[seed * 7 % len(CHAINS)], CHAINS[seed * 5 % len(CHAINS)]):
                if len(one.entries) * len(other.entries) > 900 or one.places + other.places > 10:
                    continue
                if one.prime == other.prime:
                    found += bool(one.steps and other.steps)
                    self.assertTrue(same_kinds(parts_of(chain_beside(one, other)), plain_beside(one, other)))
                else:
                    self.assertEqual(told_error(chain_beside, one, other), ("BadChain", "fit"))
        self.assertGreater(found, 10)

    def test_refuses(self):
        six, seven = Chain(2, 6, [], []), Chain(2, 8, [], [])
        self.assertEqual(chain_beside(six, six).places, 12)
        self.assertEqual(told_error(chain_beside, six, seven), ("TooMany", 12))
        self.assertEqual(told_error(chain_beside, Chain(3, 12, [], []), seven), ("BadChain", "fit"))
        for thing in NO_CHAINS:
            self.assertEqual(told_error(chain_beside, thing, None), ("BadChain", None))
            self.assertEqual(told_error(chain_beside, thing, six), ("BadChain", None))
            self.assertEqual(told_error(chain_beside, six, thing), ("BadChain", None))
        self.assertEqual(chain_beside(other=six, one=Chain(2, 2, [], [])).places, 8)


class TurnedTest(unittest.TestCase):
    def test_by_hand(self):
        told = chain_turned(chain_of(5, CROSS), 1)
        self.assertEqual(told.entries, ((0, 1, TALL), (1, 2, FLAT)))
        dot = Chain(3, 4, [(0, 0, TALL), (1, 2, TALL)], [(0, 1, (((0,), 2), ((1,), 1)))])
        told = chain_turned(dot, 1)
        # The sheet of the places 1 and 2 is that of 0 and 1 then, and comes first.
        self.assertTrue(same_kinds(told.steps, ((0, 1, (((0,), 1), ((1,), 2))),)))
        self.assertEqual(told.entries[0], (0, 0, FLAT))

    def test_by_the_words_of_the_document(self):
        for chain in CHAINS:
            for many in (0, 1, 2, 3, -1, -5, 7, 12, 10 ** 20 + 1):
                told = chain_turned(chain, many)
                if chain.places:
                    self.assertTrue(same_kinds(parts_of(told), plain_turned(chain, many)))
                else:
                    self.assertEqual(told, chain)
                self.assertEqual(chain_turned(told, -many), chain)

    def test_refuses(self):
        for thing in NO_CHAINS:
            self.assertEqual(told_error(chain_turned, thing, None), ("BadChain", None))
        for thing in NO_NUMBERS:
            self.assertEqual(told_error(chain_turned, CHAINS[0], thing), ("BadNumber", "many"), thing)
            self.assertEqual(told_error(chain_turned, Chain(2, 0, [], []), thing), ("BadNumber", "many"), thing)
        self.assertEqual(chain_turned(many=2, chain=CHAINS[0]), chain_turned(CHAINS[0], 2))


class MirroredTest(unittest.TestCase):
    def test_by_the_words_of_the_document(self):
        for chain in CHAINS:
            told = chain_mirrored(chain)
            entries = tuple((-height, -weight, mates) for height, weight, mates in chain.entries)
            steps = tuple(sorted((j, i, surface) for i, j, surface in chain.steps))
            self.assertTrue(same_kinds(parts_of(told), (chain.prime, chain.places, entries, steps)))
            self.assertEqual(chain_mirrored(told), chain)

    def test_refuses(self):
        for thing in NO_CHAINS:
            self.assertEqual(told_error(chain_mirrored, thing), ("BadChain", None))
        self.assertEqual(chain_mirrored(chain=Chain(2, 0, [], [])), Chain(2, 0, [], []))


class TiedTest(unittest.TestCase):
    def test_by_hand(self):
        strand = chain_of(3, STRAND)
        for place in (0, 1):
            self.assertTrue(same_kinds(chain_tied(strand, place).entries, ((0, -1, ()), (0, 1, ()))))
        told = chain_tied(chain_of(3, CROSS), 0)
        # A ring ahead is joined to a strand: without a dot from the mark 1, with one from -1.
        self.assertTrue(same_kinds(told.entries, ((0, 0, TWO), (0, 2, TWO), (1, 2, TWO))))
        self.assertTrue(same_kinds(told.steps, ((0, 2, (((0,), 1),)), (1, 2, PLAIN))))
        told = chain_tied(chain_of(3, CROSS), 1)
        # A ring behind comes of a strand: with the mark -1 no dot, with 1 a dot.
        self.assertTrue(same_kinds(told.entries, ((0, 1, TWO), (1, 1, TWO), (1, 3, TWO))))
        self.assertTrue(same_kinds(told.steps, ((0, 1, PLAIN), (0, 2, (((0,), 1),)))))

    def test_sheets_that_become_one(self):
        for dots, told in ((((), 1), ((), 1)), (((0,), 2), ((0,), 2)), (((1,), 2), ((0,), 2))):
            weight = 2 * len(dots[0])
            chain = Chain(3, 4, [(0, 0, FLAT), (1, weight, FLAT)], [(0, 1, (dots,))])
            self.assertEqual(chain_tied(chain, 1).steps, ((0, 1, (told,)),))
            self.assertEqual(chain_tied(chain, 3).steps, ((0, 1, (told,)),))
        both = Chain(3, 4, [(0, 0, FLAT), (1, 4, FLAT)], [(0, 1, (((0, 1), 2),))])
        self.assertEqual(chain_tied(both, 1).steps, ())
        less = Chain(3, 4, [(0, 0, FLAT), (1, 2, FLAT)], [(0, 1, (((0,), 1), ((1,), 2)))])
        self.assertEqual(chain_tied(less, 1).steps, ())

    def test_rings_on_both_sides(self):
        chain = Chain(3, 2, [(0, 0, TWO), (1, 0, TWO)], [(0, 1, (((), 2),))])
        told = chain_tied(chain, 0)
        self.assertEqual(told.entries, ((0, -1, ()), (0, 1, ()), (1, -1, ()), (1, 1, ())))
        self.assertEqual(told.steps, ((0, 2, (((), 2),)), (1, 3, (((), 2),))))
        chain = Chain(3, 2, [(0, 0, TWO), (1, 2, TWO)], [(0, 1, (((0,), 2),))])
        self.assertEqual(chain_tied(chain, 1).steps, ((1, 2, (((), 2),)),))

    def test_by_the_words_of_the_document(self):
        kinds = set()
        for chain in CHAINS:
            for place in range(chain.places):
                told = chain_tied(chain, place)
                self.assertTrue(same_kinds((told.entries, told.steps), plain_tied(chain, place)))
                self.assertEqual((told.prime, told.places), (chain.prime, chain.places - 2))
                follows = (place + 1) % chain.places
                for i, j, surface in chain.steps:
                    rings = [chain.entries[at][2][place] == follows for at in (i, j)]
                    kinds.update((rings[0], rings[1], len(dots)) for dots, _ in surface)
        self.assertGreaterEqual(len(kinds), 8)

    def test_refuses(self):
        chain = chain_of(3, CROSS)
        for thing in NO_CHAINS:
            self.assertEqual(told_error(chain_tied, thing, None), ("BadChain", None))
        for thing in (-1, 4, 99) + NO_NUMBERS:
            self.assertEqual(told_error(chain_tied, chain, thing), ("BadPlace",), thing)
        self.assertEqual(told_error(chain_tied, Chain(3, 0, [], []), 0), ("BadPlace",))
        self.assertEqual(chain_tied(place=3, chain=chain), chain_tied(chain, 3))


def small(chain):
    """The small chain of a least paper."""
    return least_paper(chain)[0]


class PiecesTest(unittest.TestCase):
    def test_chains_of_what_patches_make(self):
        for seed, patch in enumerate(PATCHES):
            if len(patch.crossings) > 4 or patch.rings > 1:
                continue
            prime = (2, 3, 5)[seed % 3]
            chain = chain_of(prime, patch)
            self.assertEqual(least_numbers(chain_mirrored(chain)), least_numbers(chain_of(prime, patch_mirrored(patch))))
            self.assertEqual(least_numbers(chain_turned(chain, 3)), least_numbers(chain_of(prime, patch_turned(patch, 3))))
            for place, (_, way) in enumerate(patch.rim):
                if way != patch.rim[(place + 1) % len(patch.rim)][1]:
                    tied = chain_of(prime, patch_tied(patch, place))
                    self.assertEqual(least_numbers(chain_tied(chain, place)), least_numbers(tied))
            for other in (CROSS, CROSS_BACK, STRAND, KINKED, patch_of(KINK)):
                if len(patch.crossings) <= 2 and len(patch.rim) <= 4:
                    beside = chain_of(prime, patch_beside(patch, other))
                    told = chain_beside(chain, chain_of(prime, other))
                    self.assertEqual(least_numbers(told), least_numbers(beside))

    def test_any_sequence_with_small_ones_between(self):
        for seed in range(40):
            chance = random.Random(seed)
            prime = chance.choice((2, 3))
            patch = chance.choice((CROSS, CROSS_BACK))
            chain = other = chain_of(prime, patch)
            for _ in range(9):
                kind = chance.choice(("beside", "tied", "tied", "turned", "mirrored"))
                number = chance.randrange(12)
                piece = chance.choice((CROSS, CROSS_BACK, STRAND))
                try:
                    if kind == "beside" and len(patch.crossings) < 5:
                        patch = patch_beside(patch, piece)
                        chain = small(chain_beside(chain, chain_of(prime, piece)))
                        other = chain_beside(small(other), mixed(chain_of(prime, piece), seed))
                    elif kind == "tied" and patch.rim:
                        place = number % len(patch.rim)
                        patch = patch_tied(patch, place)
                        chain, other = small(chain_tied(chain, place)), chain_tied(other, place)
                    elif kind == "turned":
                        patch = patch_turned(patch, number)
                        chain, other = chain_turned(chain, number), chain_turned(other, number)
                    elif kind == "mirrored":
                        patch = patch_mirrored(patch)
                        chain, other = chain_mirrored(chain), chain_mirrored(small(other))
                except RingError:
                    pass
            self.assertEqual(least_numbers(chain), patch_numbers(prime, patch))
            self.assertEqual(least_numbers(other), patch_numbers(prime, patch))


class PatchNumbersTest(unittest.TestCase):
    def test_of_chains(self):
        for patch in PATCHES + tuple(some_patch(seed, 6) for seed in range(60, 80)):
            for prime in (2, 5):
                told = patch_numbers(prime, patch)
                self.assertTrue(same_kinds(told, least_numbers(chain_of(prime, patch))))
                self.assertTrue(is_ascending(told))

    def test_of_drawings(self):
        for drawing in SAMPLES:
            told = {(height, weight, ()): many for (height, weight), many in rooms(3, drawing).items()}
            self.assertTrue(same_kinds(patch_numbers(3, patch_of(drawing)), told))

    def test_more_than_eight_crossings(self):
        # Two rows of twists of ten crossings, pieces of the whole: tied they are a closed braid.
        patch = patch_beside(twist_row(6), twist_row(5))
        told = patch_numbers(2, patch)
        one, other = patch_numbers(2, twist_row(6)), patch_numbers(2, twist_row(5))
        goal = {}
        for (height, weight, mates), many in one.items():
            for (more, beside, others), times in other.items():
                key = (height + more, weight + beside, mates + tuple(mate + 4 for mate in others))
                goal[key] = goal.get(key, 0) + many * times
        self.assertEqual(told, {key: goal[key] for key in sorted(goal)})
        for word in ([1, -2, 1, -2, 1, -2, 1, -2, 1], [1, 2, -1, -2] * 3):
            patch = braid_patch(3, word)
            chain = small(chain_of(3, braid_patch(3, word[:4])))
            for at in range(4, len(word), 4):
                # Three strands on top of three strands: joined one by one, the middle ones first.
                chain = chain_beside(chain, chain_of(3, braid_patch(3, word[at:at + 4])))
                chain = chain_turned(chain, 3)
                for place in (2, 1, 0):
                    chain = small(chain_tied(chain, place))
                chain = chain_turned(chain, 3)
            self.assertEqual(patch_numbers(3, patch), least_numbers(chain))

    def test_moves_within_the_disc(self):
        for seed in range(25):
            patch = some_patch(seed + 200, 4)
            arcs = patch.arcs
            if not arcs:
                continue
            chance = random.Random(seed)
            arc = chance.choice(arcs)
            told = patch_numbers(3, patch)
            for sign in (1, -1):
                for over in (0, 1):
                    self.assertEqual(patch_numbers(3, kinked_patch(patch, arc, sign, over)), told)
        twisted = braid_patch(3, [1, -1, 2])
        self.assertEqual(patch_numbers(5, twisted), patch_numbers(5, braid_patch(3, [2])))
        for one, other in (([1, 2, 1], [2, 1, 2]), ([1, 2, -1], [-2, 1, 2]), ([-1, -2, -1], [-2, -1, -2]),
                           ([1, -2, -1], [-2, -1, 2]), ([1, 3, -2], [3, 1, -2]), ([2, 3, -3, 1, 2, 1], [2, 2, 1, 2])):
            for prime in (2, 3):
                self.assertEqual(patch_numbers(prime, braid_patch(4, one)), patch_numbers(prime, braid_patch(4, other)))

    def test_moves_of_strings_cut_open(self):
        words = set()
        for seed, drawing in enumerate((TREFOIL, EIGHT, closed_braid(3, [1, 1, -2, 2, 1, 2]), closed_braid(4, [1, -1, 2, 3, 3]),
                                        Drawing(closed_braid(3, [1, 2, 1, -2]).crossings, 1), closed_braid(4, [1, 3, 3]))):
            arc = drawing.arcs[seed % len(drawing.arcs)]
            for prime in (2, 3):
                goal = patch_numbers(prime, cut_open(drawing, arc))
                for move, moved in moves_let(drawing):
                    if arc not in touched_arcs(drawing, move):
                        words.add(move[0])
                        self.assertEqual(patch_numbers(prime, cut_open(moved, arc)), goal, move)
        self.assertEqual(len(words), 6)

    def test_rim_to_rim(self):
        nested = Patch(CROSS.crossings, ((9, 1),) + CROSS.rim + ((9, -1),), 1)
        self.assertEqual(patch_numbers(3, nested), least_numbers(chain_of(3, nested)))
        self.assertEqual(patch_numbers(3, braid_patch(6, [])), {(0, 0, tuple(range(11, -1, -1))): 1})
        self.assertEqual(patch_numbers(2, EMPTY), {(0, 0, ()): 1})
        self.assertEqual(patch_numbers(2, Patch([], [], 8))[(0, 0, ())], 70)

    def test_refuses(self):
        for thing in NO_PRIMES:
            self.assertEqual(told_error(patch_numbers, thing, None), ("BadPrime",), thing)
            self.assertEqual(told_error(rooms_glued, thing, None), ("BadPrime",), thing)
        for thing in NO_PATCHES + (TREFOIL,):
            self.assertEqual(told_error(patch_numbers, 3, thing), ("BadPatch", None))
        for thing in NO_DRAWINGS + (EMPTY,):
            self.assertEqual(told_error(rooms_glued, 3, thing), ("BadDrawing", None))
        self.assertEqual(patch_numbers(patch=EMPTY, prime=2), {(0, 0, ()): 1})
        self.assertEqual(rooms_glued(drawing=Drawing([], 0), prime=2), {(0, 0): 1})


def kinked_patch(patch, arc, sign, over):
    """The patch with a kink in the strand of an arc, put in where the arc ends."""
    loop, last = [name for name in range(99) if name not in patch.arcs][:2]
    rows = []
    for mark, a, b, c, d in patch.crossings:
        rows.append((mark, last if a == arc else a, b, last if c == arc else c, d))
    rim = [(last, -1) if end == (arc, -1) else end for end in patch.rim]
    rows.append((sign, loop, last, arc, loop) if over else (sign, arc, loop, loop, last))
    return Patch(rows, rim, patch.rings)


def cut_open(drawing, arc):
    """The patch of a drawing with one arc cut, its two ends at the rim."""
    fresh = next(name for name in range(100) if name not in drawing.arcs)
    rows = [(s, fresh if a == arc else a, b, fresh if c == arc else c, d) for s, a, b, c, d in drawing.crossings]
    return Patch(rows, [(fresh, 1), (arc, -1)], drawing.rings)


class RoomsGluedTest(unittest.TestCase):
    def test_small_ones(self):
        for drawing in SAMPLES + (closed_braid(4, [1, -2, 3, -2, 1, 3]), closed_braid(3, [1, 2] * 4)):
            for prime in (2, 3, 97):
                told = rooms_glued(prime, drawing)
                self.assertTrue(same_kinds(told, rooms(prime, drawing)))
                self.assertTrue(is_ascending(told))

    def test_behind_moves(self):
        for seed in range(6):
            drawing = (TREFOIL, EIGHT, KINK)[seed % 3]
            goal = rooms(3, drawing)
            for _, moved in walk(drawing, 7, 14, seed):
                self.assertEqual(rooms_glued(3, moved), goal)

    def test_more_than_ten_crossings(self):
        for many in range(11, 21):
            told = {(0, many - 2): 1, (0, many): 1}
            for k in range(2, many + 1):
                # Over 2 each height from 2 on has two rooms at both places, the last one of even many besides.
                told[(k, many + 2 * k - 2)] = 1
                told[(k, many + 2 * k)] = 1
            self.assertEqual(rooms_glued(2, closed_braid(2, [1] * many)), told)
        seven = closed_braid(2, [1] * 7)
        self.assertEqual(rooms_glued(2, side_by_side(seven, mirrored(seven))),
                         {key: many for key, many in sorted(products(rooms(2, seven), rooms(2, mirrored(seven))).items())})
        trivial = closed_braid(3, [1, -2, 1, 2, 2, -2, -2, -1, 2, -1, 1, 2, -2, -1])
        self.assertEqual(sum(rooms_glued(3, trivial).values()) % 2, 0)
        # Full twists of three strands, told by a shorter drawing of them where there is one.
        one, other = closed_braid(3, [1, 2] * 6), closed_braid(3, [2, 1] * 6)
        self.assertEqual(rooms_glued(3, one), rooms_glued(3, other))
        self.assertEqual(rooms_glued(3, closed_braid(4, [1, 2, 1, -2, -1, -2] + [1, -2, 3] * 2)),
                         rooms(3, closed_braid(4, [1, -2, 3] * 2)))

    def test_twenty_crossings_with_rings(self):
        drawing = closed_braid(4, [1, -1, 2, -2, 3, -3, 1, 1, 1, 2, -2, 3, -3, -1, 1, 2, 3, -3, -2, 3])
        told = rooms_glued(2, Drawing(drawing.crossings, 2))
        goal = rooms(2, Drawing(closed_braid(4, [1, 1, 1, 3]).crossings, 2))
        self.assertEqual(told, goal)


def products(first, second):
    """The product of two dicts of rooms."""
    found = {}
    for (i, j), many in first.items():
        for (a, b), times in second.items():
            found[(i + a, j + b)] = found.get((i + a, j + b), 0) + many * times
    return found


if __name__ == "__main__":
    unittest.main()
