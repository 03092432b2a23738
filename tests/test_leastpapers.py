import random
import unittest
from collections import Counter

from ringcubes.chains import Chain, chain_of
from ringcubes.leastpapers import is_least_paper, least_paper
from ringcubes.leasts import is_least, least_numbers
from ringcubes.patches import Patch, patch_of
from tests.chainworks import (PLAIN, added, behind, mixed, plain_table, some_chains, some_level, table_of, with_pair)
from tests.patchworks import CROSS, KINKED, PATCHES, STRAND, braid_patch
from tests.samples import HOPF, NO_NUMBERS, same_kinds, told_error
from tests.test_leasts import FLAT, NO_CHAINS, TALL, TWO


def is_lead(prime, one, other, more, thing):
    """Whether rows are a lead between lists of entries, by the words of the document."""
    if not isinstance(thing, tuple) or list(thing) != sorted(thing) or len(table_of(thing)) != len(thing):
        return False
    for i, j, surface in thing:
        if other[j][0] != one[i][0] + more or not surface:
            return False
        for dots, number in surface:
            if not 1 <= number < prime:
                return False
    # That all dots are sheets, ascending and level is what a Chain of both asks for.
    shift = [(height + 1 - more, weight, mates) for height, weight, mates in other]
    steps = [(i, len(one) + j, surface) for i, j, surface in thing]
    return Chain(prime, len((list(one) + shift)[0][2]), list(one) + shift, steps) is not None if thing else True


def fault_of(chain, paper):
    """What is wrong with a least paper, by the words of the document; None if nothing is."""
    small, there, back, lift = paper
    prime, rows, few = chain.prime, chain.entries, small.entries
    if not is_lead(prime, rows, few, 0, there) or not is_lead(prime, few, rows, 0, back):
        return "leads"
    if not is_lead(prime, rows, rows, -1, lift) or not is_least(small):
        return "lift or small"
    steps, few_steps = table_of(chain.steps), table_of(small.steps)
    there, back, lift = table_of(there), table_of(back), table_of(lift)
    if behind(prime, (rows, rows, few), steps, there) != behind(prime, (rows, few, few), there, few_steps):
        return "there"
    if behind(prime, (few, few, rows), few_steps, back) != behind(prime, (few, rows, rows), back, steps):
        return "back"
    if behind(prime, (few, rows, few), back, there) != plain_table(len(few)):
        return "around"
    goal = added(prime, (1, plain_table(len(rows))), (-1, behind(prime, (rows,) * 3, steps, lift)),
                 (-1, behind(prime, (rows,) * 3, lift, steps)))
    return None if behind(prime, (rows, few, rows), there, back) == goal else "lift"


def plain_paper(chain):
    """The paper of a chain to itself."""
    rows = tuple((at, at, PLAIN) for at in range(len(chain.entries)))
    return chain, rows, rows, ()


LEAST = chain_of(3, CROSS)
WIDE = chain_of(3, KINKED)


class LeastPaperTest(unittest.TestCase):
    def test_by_hand(self):
        pair = Chain(5, 2, [(0, 0, TWO), (1, 0, TWO)], [(0, 1, (((), 2),))])
        told = least_paper(pair)
        self.assertTrue(same_kinds(told[1:], ((), (), ((1, 0, (((), 3),)),))))
        self.assertTrue(same_kinds((told[0].prime, told[0].places, told[0].entries, told[0].steps), (5, 2, (), ())))
        self.assertTrue(is_least_paper(pair, told))

    def test_of_chains(self):
        for chain in some_chains(90):
            paper = least_paper(chain)
            self.assertIs(is_least_paper(chain, paper), True)
            self.assertIsNone(fault_of(chain, paper))
            self.assertIs(type(paper), tuple)
            self.assertEqual(dict(Counter(paper[0].entries)), least_numbers(chain))
            self.assertTrue(same_kinds(least_paper(chain)[1:], paper[1:]))
            self.assertEqual(least_paper(chain)[0], paper[0])

    def test_of_bigger_chains(self):
        for patch, prime in ((braid_patch(2, [1] * 6), 2), (braid_patch(3, [1, -2, 1, -2, 1]), 3), (patch_of(HOPF), 97),
                             (braid_patch(4, [1, -2, 3, -2, 1]), 5), (Patch(CROSS.crossings, CROSS.rim, 4), 2)):
            chain = chain_of(prime, patch)
            paper = least_paper(chain)
            self.assertTrue(is_least_paper(chain, paper))
            self.assertEqual(dict(Counter(paper[0].entries)), least_numbers(chain))

    def test_of_least_chains_and_of_none(self):
        for chain in (LEAST, Chain(2, 0, [], []), Chain(7, 12, [], []), chain_of(2, STRAND), least_paper(WIDE)[0]):
            paper = least_paper(chain)
            self.assertTrue(is_least_paper(chain, paper))
            self.assertEqual(len(paper[0].entries), len(chain.entries))
            self.assertTrue(is_least_paper(chain, plain_paper(chain)))

    def test_refuses(self):
        for thing in NO_CHAINS:
            self.assertEqual(told_error(is_least_paper, thing, None), ("BadChain", None))
            self.assertEqual(told_error(least_paper, thing), ("BadChain", None))
        self.assertTrue(is_least_paper(paper=least_paper(chain=WIDE), chain=WIDE))


class IsLeastPaperTest(unittest.TestCase):
    def test_other_values(self):
        paper = least_paper(WIDE)
        for thing in NO_CHAINS + NO_NUMBERS + (paper[:3], paper + ((),), list(paper), (None,) + paper[1:], (paper,)):
            self.assertIs(is_least_paper(WIDE, thing), False)
        for at in (1, 2, 3):
            for thing in NO_CHAINS + NO_NUMBERS + (list(paper[at]), paper[at] + (None,), paper[at] + ((),), ((0, 0),)):
                if thing != () or paper[at]:
                    wrong = paper[:at] + (thing,) + paper[at + 1:]
                    self.assertIs(is_least_paper(WIDE, wrong), False, wrong)

    def test_small_of_another_prime_or_of_other_places(self):
        empty = Chain(3, 4, [], [])
        self.assertTrue(is_least_paper(empty, (empty, (), (), ())))
        for other in (Chain(2, 4, [], []), Chain(3, 2, [], []), Chain(3, 0, [], [])):
            self.assertFalse(is_least_paper(empty, (other, (), (), ())))

    def test_small_with_plain_parts(self):
        # Both ways are plain, and all that is told of both ways holds: but it is not small.
        self.assertFalse(is_least(WIDE))
        self.assertFalse(is_least_paper(WIDE, plain_paper(WIDE)))
        self.assertTrue(is_least_paper(LEAST, plain_paper(LEAST)))

    def test_steps_of_small(self):
        chain = chain_of(3, braid_patch(2, [1, 1]))
        small, there, back, lift = least_paper(chain)
        self.assertTrue(small.steps)
        for at in range(len(small.steps)):
            rest = small.steps[:at] + small.steps[at + 1:]
            try:
                less = Chain(3, 4, small.entries, rest)
            except ValueError:
                continue
            self.assertFalse(is_least_paper(chain, (less, there, back, lift)))
        twice = [(i, j, tuple((dots, number * 2 % 3) for dots, number in surface)) for i, j, surface in small.steps]
        self.assertFalse(is_least_paper(chain, (Chain(3, 4, small.entries, twice), there, back, lift)))

    def test_one_thing_changed(self):
        refused = 0
        for seed, chain in enumerate(some_chains(30)):
            chance = random.Random(seed)
            paper = least_paper(chain)
            for at in (1, 2, 3):
                lead = list(paper[at])
                for _ in range(3):
                    for wrong in self.changed(chance, chain, paper, at, list(lead)):
                        told = paper[:at] + (tuple(wrong),) + paper[at + 1:]
                        self.assertIs(is_least_paper(chain, told), fault_of(chain, told) is None)
                        refused += fault_of(chain, told) is not None
        self.assertGreater(refused, 100)

    def changed(self, chance, chain, paper, at, lead):
        """Leads with a part left out, taken otherwise often, or one more."""
        ends = [(chain.entries, paper[0].entries), (paper[0].entries, chain.entries), (chain.entries,) * 2][at - 1]
        if lead:
            k = chance.randrange(len(lead))
            i, j, surface = lead[k]
            yield lead[:k] + lead[k + 1:]
            if chain.prime > 2:
                times = tuple((dots, number * 2 % chain.prime) for dots, number in surface)
                yield lead[:k] + [(i, j, times)] + lead[k + 1:]
        if ends[0] and ends[1]:
            i, j = chance.randrange(len(ends[0])), chance.randrange(len(ends[1]))
            surface = some_level(chance, chain.prime, ends[0][i], ends[1][j])
            if surface and (i, j) not in table_of(lead) and ends[1][j][0] == ends[0][i][0] - (at == 3):
                yield sorted(lead + [(i, j, surface)])

    def test_other_lifts_may_be_right(self):
        # A lift plus (steps, then any rise of two, less back again) is as good, if the steps are the same.
        chain = Chain(3, 2, [(0, 0, TWO), (2, -2, TWO)], [])
        self.assertTrue(is_least_paper(chain, plain_paper(chain)))
        rows = plain_paper(chain)[1]
        # Heights 0 and 1: a lift from one to the other where there are no steps changes nothing.
        chain = Chain(3, 2, [(0, 0, TWO), (1, 0, TWO)], [])
        self.assertTrue(is_least_paper(chain, (chain, rows, rows, ((1, 0, PLAIN),))))
        self.assertFalse(is_least_paper(chain, (chain, rows, rows, ((0, 1, PLAIN),))))

    def test_form_of_leads(self):
        chain = Chain(3, 4, [(0, 0, FLAT), (0, 0, FLAT), (0, 1, TALL), (1, 4, FLAT)], [])
        good = tuple((at, at, PLAIN) for at in range(4))
        self.assertTrue(is_least_paper(chain, (chain, good, good, ())))
        for wrong in (good[::-1], (good[1], good[0]) + good[2:], good[:1] + good, good + good[3:],
                      tuple(list(row) for row in good), list(good), (good[0] + (0,),) + good[1:], good[:3],
                      ((False, 0, PLAIN),) + good[1:], ((0, False, PLAIN),) + good[1:], good[:1] + ((True, 1, PLAIN),) + good[2:],
                      ((0, 0, (((), True),)),) + good[1:], ((0, 0, [((), 1)]),) + good[1:], ((0, 0, (([], 1),)),) + good[1:],
                      ((0, 0, ()),) + good[1:], good[:2] + ((1, 2, ()),) + good[2:], good + ((4, 4, PLAIN),),
                      ((-1, 0, PLAIN),) + good, good[:3] + ((3, -1, PLAIN),), ((0, 0, (((), 4),)),) + good[1:],
                      ((0, 0, (((), 0),)),) + good[1:], ((0, 0, (((0,), 1),)),) + good[1:],
                      ((0, 0, (((), 1), ((0,), 1))),) + good[1:], good[:1] + ((0, 2, PLAIN),) + good[1:],
                      good[:1] + ((0, 3, (((0, 1), 1),)),) + good[1:], ((0.0, 0, PLAIN),) + good[1:], None, 7, "ab"):
            self.assertIs(is_least_paper(chain, (chain, wrong, good, ())), False, wrong)
            self.assertIs(is_least_paper(chain, (chain, good, wrong, ())), False, wrong)
        for wrong in ([], None, 0, (None,), good, ((3, 0, PLAIN),), ((3, 0, ()),), [(3, 1, PLAIN)], ((0, 3, PLAIN),)):
            self.assertIs(is_least_paper(chain, (chain, good, good, wrong)), False, wrong)
        # Entries exchanged there and back are right as well.
        cross = ((0, 1, PLAIN), (1, 0, PLAIN)) + good[2:]
        self.assertTrue(is_least_paper(chain, (chain, cross, cross, ())))
        self.assertFalse(is_least_paper(chain, (chain, cross, good, ())))

    def test_one_pair_twice(self):
        chain = Chain(3, 4, [(0, 0, FLAT), (0, 1, TALL)], [])
        double = tuple((at, at, (((), 2),)) for at in range(2))
        self.assertTrue(is_least_paper(chain, (chain, double, double, ())))
        # Whichever of both is taken, the other one is too many.
        for wrong in (((0, 0, PLAIN),) + double, double[:1] + ((1, 1, PLAIN),) + double[1:]):
            self.assertFalse(is_least_paper(chain, (chain, wrong, double, ())))
            self.assertFalse(is_least_paper(chain, (chain, double, wrong, ())))

    def test_small_with_more_than_comes_back(self):
        for chain in (LEAST, WIDE, Chain(2, 0, [], [])):
            small, there, back, lift = least_paper(chain)
            wider = Chain(small.prime, small.places, small.entries + ((7, 7, tuple(range(small.places))[::-1]),), small.steps)
            self.assertEqual(fault_of(chain, (wider, there, back, lift)), "around")
            self.assertFalse(is_least_paper(chain, (wider, there, back, lift)))

    def test_papers_of_other_chains(self):
        for patch in PATCHES[:12]:
            if len(patch.crossings) <= 3:
                chain = chain_of(3, patch)
                other = with_pair(chain, (0, 0, chain.entries[0][2]))
                self.assertFalse(is_least_paper(chain, least_paper(other)))
                self.assertFalse(is_least_paper(other, least_paper(chain)))

    def test_small_has_the_least_numbers(self):
        for seed in range(6):
            chain = mixed(chain_of(5, braid_patch(2, [1, -1, 1])), seed)
            small = least_paper(chain)[0]
            self.assertEqual(dict(Counter(small.entries)), least_numbers(chain))
            self.assertTrue(is_least(small))


if __name__ == "__main__":
    unittest.main()
