import itertools
import unittest

from ringcubes.leftovers import rule_left
from ringcubes.rules import rule_kind
from ringcubes.ruleways import moved_rule, rule_way, scaled_rule
from ringcubes.spreads import spread
from tests.plainrules import NO_RULES
from tests.samples import HOPF, NO_NUMBERS, TREFOIL, same_kinds, told_error
from tests.test_rooms import NO_PRIMES

FAR = 10 ** 20


class MovedTest(unittest.TestCase):
    def test_by_hand(self):
        for prime, rule, number, told in ((5, (0, 0), 0, (0, 0)), (5, (1, 0), 2, (0, 4)), (5, (1, 3), -1, (4, 3)),
                                          (2, (0, 0), 1, (0, 1)), (2, (1, 1), 1, (1, 1)), (2, (-1, 7), 3, (1, 1)),
                                          (7, (20, -20), 9, (3, 6)), (97, (-1, -1), 0, (96, 96)), (3, (1, 0), 3, (1, 0))):
            self.assertTrue(same_kinds(moved_rule(prime, rule, number), told), (prime, rule, number))

    def test_as_told(self):
        for prime, h, t, number in itertools.product((2, 3, 5, 97), (-3, 0, 4, FAR), (-1, 0, 100), (-98, 0, 1, 6, FAR)):
            goal = ((h + 2 * number) % prime, (t - h * number - number * number) % prime)
            self.assertTrue(same_kinds(moved_rule(prime, (h, t), number), goal))
            self.assertEqual(rule_kind(prime, goal), rule_kind(prime, (h, t)))

    def test_what_it_is_of(self):
        # With y = x + number for x the roots move by the number.
        for h, t, number in itertools.product(range(7), repeat=3):
            roots = {(x + number) % 7 for x in range(7) if (x * x - h * x - t) % 7 == 0}
            h_there, t_there = moved_rule(7, (h, t), number)
            self.assertEqual({x for x in range(7) if (x * x - h_there * x - t_there) % 7 == 0}, roots)


class ScaledTest(unittest.TestCase):
    def test_by_hand(self):
        for prime, rule, number, told in ((5, (1, 2), 1, (1, 2)), (5, (1, 2), 3, (3, 3)), (5, (1, 2), -1, (4, 2)),
                                          (2, (1, 1), 7, (1, 1)), (97, (-1, 98), 96, (1, 1)), (3, (4, -4), 5, (2, 2))):
            self.assertTrue(same_kinds(scaled_rule(prime, rule, number), told), (prime, rule, number))

    def test_as_told(self):
        for prime, h, t, number in itertools.product((2, 3, 5, 97), (-3, 0, 4, FAR), (-1, 0, 100), (-97, 0, 1, 6, FAR)):
            if number % prime == 0:
                self.assertEqual(told_error(scaled_rule, prime, (h, t), number), ("BadNumber", "number"))
            else:
                goal = (h * number % prime, t * number * number % prime)
                self.assertTrue(same_kinds(scaled_rule(prime, (h, t), number), goal))
                self.assertEqual(rule_kind(prime, goal), rule_kind(prime, (h, t)))


class WayTest(unittest.TestCase):
    def test_by_kinds(self):
        for prime in (2, 3, 5, 7):
            rules = list(itertools.product(range(prime), repeat=2))
            for one, other in itertools.product(rules, repeat=2):
                way = rule_way(prime, one, other)
                self.assertEqual(way is None, rule_kind(prime, one) != rule_kind(prime, other))
                if way is not None:
                    self.check_way(prime, one, other, way)

    def check_way(self, prime, one, other, way):
        self.assertTrue(isinstance(way, tuple) and len(way) == 2)
        scale, shift = way
        self.assertTrue(1 <= scale < prime and 0 <= shift < prime)
        told = moved_rule(prime, scaled_rule(prime, one, scale), shift)
        self.assertEqual(told, (other[0] % prime, other[1] % prime))

    def test_numbers_beyond_the_prime(self):
        for prime, one, other in ((97, (0, 5), (-FAR, 5)), (97, (1, 0), (0, 96)), (97, (0, 0), (194, -97 * 97)),
                                  (5, (-4, 10), (6, 5)), (2, (3, -3), (1, 1)), (2, (2, 4), (-2, 9)), (97, (98, 1), (1, 98))):
            way = rule_way(prime, one, other)
            self.assertEqual(way is None, rule_kind(prime, one) != rule_kind(prime, other))
            if way is not None:
                self.check_way(prime, one, other, way)
            self.assertEqual(rule_way(prime, one, other), way)
        self.assertIsNone(rule_way(97, (1, 0), (0, 5)))

    def test_what_is_left_is_the_same(self):
        for drawing in (TREFOIL, HOPF):
            for prime, one, other in ((3, (1, 0), (0, 1)), (5, (0, 2), (0, 3)), (2, (0, 0), (0, 1)), (5, (0, 0), (2, -1))):
                self.assertIsNotNone(rule_way(prime, one, other))
                self.assertEqual(rule_left(prime, one, drawing), rule_left(prime, other, drawing))
                self.assertEqual(spread(prime, one, drawing), spread(prime, other, drawing))

    def test_refuses(self):
        for call in (moved_rule, scaled_rule, rule_way):
            for thing in NO_PRIMES:
                self.assertEqual(told_error(call, thing, None, None), ("BadPrime",), thing)
            for thing in NO_RULES:
                self.assertEqual(told_error(call, 3, thing, None), ("BadRule",), thing)
        for thing in NO_RULES:
            self.assertEqual(told_error(rule_way, 3, (0, 0), thing), ("BadRule",), thing)
            self.assertEqual(told_error(rule_way, 3, thing, (0, 0)), ("BadRule",), thing)
        for thing in NO_NUMBERS:
            self.assertEqual(told_error(moved_rule, 3, (0, 0), thing), ("BadNumber", "number"), thing)
            self.assertEqual(told_error(scaled_rule, 3, (0, 0), thing), ("BadNumber", "number"), thing)
        self.assertEqual(moved_rule(number=1, rule=(1, 0), prime=5), (3, 3))
        self.assertEqual(scaled_rule(number=2, rule=(1, 1), prime=5), (2, 4))
        self.assertEqual(rule_way(other=(1, 0), one=(1, 0), prime=2), (1, 0))


if __name__ == "__main__":
    unittest.main()
