import itertools
import unittest

from ringcubes.braids import closed_braid
from ringcubes.drawings import Drawing, linking, way_count, ways
from ringcubes.leftovers import rule_left
from ringcubes.rooms import rooms
from ringcubes.rules import rule_kind
from ringcubes.views import way_turned
from tests.plainrules import FEW, MORE, NO_RULES, RULES, plain_left
from tests.samples import (HOPF, NO_DRAWINGS, NOTHING, RINGS, TREFOIL, is_ascending, same_kinds, told_error)
from tests.test_rooms import NO_PRIMES
from tests.walks import walk

BIG = closed_braid(2, [1] * 11)
TEN = (closed_braid(2, [1] * 10), closed_braid(3, [1, -2] * 5), closed_braid(4, [1, 1, 2, 2, 3, 3, -1, -1, 2, 2]))


def by_linking(drawing):
    """What is left at each height, told by lots of ways and rings."""
    many = len(ways(drawing))
    found = {}
    for bits in itertools.product((0, 1), repeat=many):
        height = 2 * sum(linking(drawing, one, other) for one in range(many) for other in range(many)
                         if bits[one] and not bits[other])
        found[height] = found.get(height, 0) + 2 ** drawing.rings
    return {height: found[height] for height in sorted(found)}


class RuleLeftTest(unittest.TestCase):
    def test_by_hand(self):
        self.assertTrue(same_kinds(rule_left(3, (0, 1), closed_braid(2, [1, 1])), {0: 2, 2: 2}))
        self.assertTrue(same_kinds(rule_left(2, (1, 0), way_turned(HOPF, 0)), {-2: 2, 0: 2}))
        self.assertTrue(same_kinds(rule_left(2, (0, 0), TREFOIL), {0: 2, 2: 2, 3: 2}))
        self.assertTrue(same_kinds(rule_left(3, (0, 0), TREFOIL), {0: 2, 2: 1, 3: 1}))
        self.assertTrue(same_kinds(rule_left(5, (1, 1), NOTHING), {0: 1}))
        self.assertTrue(same_kinds(rule_left(5, (0, 2), RINGS), {0: 8}))
        self.assertEqual(rule_left(97, (1, 0), Drawing([], 8)), {0: 256})

    def test_by_the_words_of_the_document(self):
        for drawing in FEW:
            for rule in RULES:
                for prime in (2, 3):
                    self.assertTrue(same_kinds(rule_left(prime, rule, drawing), plain_left(prime, rule, drawing)))

    def test_by_linking(self):
        kinds = {}
        for drawing in MORE + tuple(goal for _, goal in walk(TREFOIL, 3, 7, 2)):
            for rule in RULES:
                for prime in (2, 3, 5, 97):
                    kind = rule_kind(prime, rule)
                    kinds[kind] = kinds.get(kind, 0) + 1
                    told = rule_left(prime, rule, drawing)
                    self.assertTrue(is_ascending(told))
                    if kind == "double":
                        goal = {}
                        for (height, _), many in rooms(prime, drawing).items():
                            goal[height] = goal.get(height, 0) + many
                        self.assertEqual(told, goal)
                    else:
                        self.assertTrue(same_kinds(told, by_linking(drawing)))
                        self.assertEqual(sum(told.values()), 2 ** way_count(drawing))
        self.assertEqual(sorted(kinds), ["double", "none", "two"])

    def test_ten_crossings(self):
        for drawing in TEN:
            self.assertEqual(rule_left(5, (0, 2), drawing), by_linking(drawing))
            self.assertEqual(rule_left(2, (1, 0), Drawing(drawing.crossings, 8)),
                             by_linking(Drawing(drawing.crossings, 8)))

    def test_refuses(self):
        for thing in NO_PRIMES:
            self.assertEqual(told_error(rule_left, thing, None, None), ("BadPrime",), thing)
        for thing in NO_RULES:
            self.assertEqual(told_error(rule_left, 3, thing, None), ("BadRule",), thing)
        for thing in NO_DRAWINGS:
            self.assertEqual(told_error(rule_left, 3, (0, 0), thing), ("BadDrawing", None))
        self.assertEqual(told_error(rule_left, 3, (0, 0), BIG), ("TooMany", 10))
        rule_left(drawing=TREFOIL, rule=(1, 0), prime=2).clear()
        self.assertEqual(rule_left(2, (1, 0), TREFOIL), {0: 2})


if __name__ == "__main__":
    unittest.main()
