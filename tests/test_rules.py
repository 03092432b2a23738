import unittest

from ringcubes.braids import closed_braid
from ringcubes.cube import states
from ringcubes.drawings import Drawing
from ringcubes.rules import rule_kind, rule_step
from ringcubes.views import way_turned
from tests.plainrules import FEW, NO_RULES, RULES, plain_rule_step
from tests.samples import (BORROMEAN, HANDS, HOPF, KINK, KINK_BACK, NO_DRAWINGS, NO_NUMBERS, NOTHING, RING, RINGS,
                           TREFOIL, TWO_PIECES, is_ascending, plain_spot, plain_states, plain_step, same_kinds,
                           told_error)
from tests.test_rooms import NO_PRIMES

BIG = closed_braid(2, [1] * 20)
NO_STATES = NO_NUMBERS + ((), [], "ab", ((0, 0, 0),), ((0, 0, 0), (1, 1), ()), [(0, 0, 0), (1, 1)],
                          ([0, 0, 0], (1, 1)), ((0, 0, 0), [1, 1]), ((0, 0), (1, 1)), ((0, 0, 0, 0), (1, 1)),
                          ((0, 0, 2), (1, 1)), ((0, 0, True), (1,)), ((0, 0, False), (1, 1)), ((0, 0, 0), (1,)),
                          ((0, 0, 0), (1, 1, 1)), ((0, 0, 0), (1, 0)), ((0, 0, 0), (1, True)), ((0, 0, 0), (1, 2)),
                          ((0, 0, 0), (1, -1.0)), ((1, 1, 1), (1, 1)), ((0, 0, "0"), (1, 1)), (None, None))
PRIMES = (2, 3, 5, 97)


class RuleStepTest(unittest.TestCase):
    def test_by_hand(self):
        self.assertTrue(same_kinds(rule_step(3, (0, 1), KINK, ((0,), (-1, -1))), {((1,), (1,)): 1}))
        self.assertTrue(same_kinds(rule_step(5, (2, 3), KINK, ((0,), (-1, -1))), {((1,), (-1,)): 2, ((1,), (1,)): 3}))
        self.assertTrue(same_kinds(rule_step(5, (7, -2), KINK, ((0,), (-1, -1))), {((1,), (-1,)): 2, ((1,), (1,)): 3}))
        self.assertTrue(same_kinds(rule_step(5, (2, 3), KINK, ((0,), (-1, 1))), {((1,), (-1,)): 1}))
        self.assertTrue(same_kinds(rule_step(2, (1, 1), KINK, ((0,), (1, 1))), {((1,), (1,)): 1}))
        self.assertTrue(same_kinds(rule_step(2, (1, 1), KINK, ((1,), (1,))), {}))
        split = Drawing([(-1, 0, 1, 1, 0)], 0)
        self.assertTrue(same_kinds(rule_step(5, (2, 3), split, ((0,), (1,))),
                                   {((1,), (-1, 1)): 1, ((1,), (1, -1)): 1, ((1,), (1, 1)): 3}))
        self.assertTrue(same_kinds(rule_step(5, (2, 3), split, ((0,), (-1,))), {((1,), (-1, -1)): 1, ((1,), (1, 1)): 3}))
        self.assertEqual(rule_step(5, (5, -10), split, ((0,), (1,))), {((1,), (-1, 1)): 1, ((1,), (1, -1)): 1})
        # A crossing ahead with choice 1 gives minus.
        self.assertEqual(rule_step(7, (1, 0), HOPF, ((1, 0), (-1,))), {((1, 1), (-1, -1)): 6})
        self.assertEqual(rule_step(7, (1, 0), HOPF, ((1, 0), (1,))),
                         {((1, 1), (-1, 1)): 6, ((1, 1), (1, -1)): 6, ((1, 1), (1, 1)): 1})
        self.assertTrue(same_kinds(rule_step(7, (1, 0), RINGS, ((), (1, -1, 1))), {}))
        self.assertTrue(same_kinds(rule_step(7, (1, 0), NOTHING, ((), ())), {}))

    def test_by_the_words_of_the_document(self):
        for drawing in FEW:
            for rule in RULES:
                for prime in PRIMES:
                    for state in plain_states(drawing)[::3]:
                        told = rule_step(prime, rule, drawing, state)
                        self.assertTrue(same_kinds(told, plain_rule_step(prime, rule, drawing, state)))
                        self.assertTrue(is_ascending(told))

    def test_first_rule_is_the_step(self):
        for drawing in FEW:
            for state in plain_states(drawing)[::2]:
                for prime, rule in ((2, (0, 0)), (3, (0, 0)), (5, (-5, 10))):
                    goal = {goal: number % prime for goal, number in plain_step(drawing, state).items()}
                    self.assertEqual(rule_step(prime, rule, drawing, state), goal)

    def test_numbers_modulo_the_prime(self):
        for state in plain_states(TREFOIL):
            told = rule_step(5, (2, 3), TREFOIL, state)
            for rule in ((7, 3), (-3, -2), (2 + 5 * 10 ** 20, 3 - 5 * 10 ** 20)):
                self.assertEqual(rule_step(5, rule, TREFOIL, state), told)

    def test_twice_is_nothing(self):
        for drawing in FEW + (TWO_PIECES, way_turned(HANDS, 1)):
            for rule in RULES:
                for prime in (2, 3, 7):
                    for state in plain_states(drawing)[::5]:
                        total = {}
                        for goal, number in rule_step(prime, rule, drawing, state).items():
                            for last, times in rule_step(prime, rule, drawing, goal).items():
                                total[last] = (total.get(last, 0) + number * times) % prime
                        self.assertFalse(any(total.values()))

    def test_weights(self):
        for state in plain_states(BORROMEAN)[::9]:
            height, weight = plain_spot(BORROMEAN, state)
            for goal in rule_step(97, (2, 3), BORROMEAN, state):
                up, more = plain_spot(BORROMEAN, goal)
                self.assertEqual(up, height + 1)
                self.assertIn(more - weight, (0, 2, 4))

    def test_many_crossings(self):
        state = ((0,) * 20, (-1, -1))
        told = rule_step(3, (1, 0), BIG, state)
        self.assertEqual(len(told), 20)
        self.assertEqual(set(told.values()), {1})
        self.assertEqual(told_error(rule_step, 3, (1, 0), BIG, ((0,) * 19, (-1, -1))), ("BadState",))

    def test_refuses(self):
        for thing in NO_PRIMES:
            self.assertEqual(told_error(rule_step, thing, None, None, None), ("BadPrime",), thing)
        for thing in NO_RULES:
            self.assertEqual(told_error(rule_step, 3, thing, None, None), ("BadRule",), thing)
        for thing in NO_DRAWINGS:
            self.assertEqual(told_error(rule_step, 3, (0, 0), thing, None), ("BadDrawing", None))
        for thing in NO_STATES:
            self.assertEqual(told_error(rule_step, 3, (0, 0), TREFOIL, thing), ("BadState",), thing)
        self.assertEqual(told_error(rule_step, 3, (0, 0), RING, ((), ())), ("BadState",))
        self.assertEqual(told_error(rule_step, 3, (0, 0), RING, ((), (True,))), ("BadState",))
        told = rule_step(state=((0,), (1, 1)), drawing=KINK, rule=(0, 0), prime=2)
        told.clear()
        self.assertEqual(rule_step(2, (0, 0), KINK, ((0,), (1, 1))), {((1,), (1,)): 1})

    def test_states_as_told(self):
        for state in states(KINK_BACK, 0, 1) + states(KINK_BACK, -1, 0):
            self.assertIsInstance(rule_step(2, (0, 0), KINK_BACK, state), dict)


class RuleKindTest(unittest.TestCase):
    def test_by_hand(self):
        for prime, rule, told in ((2, (0, 0), "double"), (2, (0, 1), "double"), (2, (1, 0), "two"), (2, (1, 1), "none"),
                                  (2, (3, -1), "none"), (3, (0, 0), "double"), (3, (0, 1), "two"), (3, (0, 2), "none"),
                                  (3, (1, 0), "two"), (5, (2, -1), "double"), (5, (0, 4), "two"), (5, (0, 2), "none"),
                                  (97, (1, 0), "two"), (97, (0, 96), "two"), (97, (0, 5), "none"), (7, (0, 7), "double"),
                                  (7, (-14, 49), "double"), (3, (10 ** 20, 0), "two")):
            self.assertTrue(same_kinds(rule_kind(prime, rule), told), (prime, rule))

    def test_by_roots(self):
        for prime in (2, 3, 5, 7, 11):
            for h in range(-prime, 2 * prime):
                for t in range(-prime, 2 * prime):
                    many = [x for x in range(prime) if (x * x - h * x - t) % prime == 0]
                    self.assertEqual(rule_kind(prime, (h, t)), {0: "none", 1: "double", 2: "two"}[len(many)])

    def test_refuses(self):
        for thing in NO_PRIMES:
            self.assertEqual(told_error(rule_kind, thing, None), ("BadPrime",), thing)
        for thing in NO_RULES:
            self.assertEqual(told_error(rule_kind, 3, thing), ("BadRule",), thing)
        self.assertEqual(rule_kind(rule=(1, 0), prime=2), "two")


if __name__ == "__main__":
    unittest.main()
