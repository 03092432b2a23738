import itertools
import random
import unittest

from ringcubes.matchings import matchings, sheets
from tests.patchworks import plain_sheets
from tests.samples import NO_NUMBERS, same_kinds, told_error

NEAR = NO_NUMBERS[:5] + ([], [1, 0], (0,), (0, 1), (1, 0, 2), (1, 1), (0, 0), (2, 3, 0, 1), (1, 2, 3, 0), (1, 0, 3, 3),
                         (True, False), (1, False), (True, 0), (1.0, 0), ("1", "0"), (1, None), (-1, -2), (1, -2), (2, 0),
                         (1, 0, 4, 5, 2, 3), (3, 4, 5, 0, 1, 2), (2, 1, 0), {0: 1, 1: 0}, "10", (1, 0, 3),
                         (1, 0) * 7, tuple(at ^ 1 for at in range(14)), ((1, 0),), (1, 0, 3, 2, 5, 4, 6))


def plain_matchings(places):
    """All matchings by force, ascending."""
    found = []
    for mates in itertools.product(range(places), repeat=places):
        if all(mate != at and mates[mate] == at for at, mate in enumerate(mates)):
            crossed = [1 for i, j in itertools.combinations(range(places), 2) if j < mates[i] < mates[j]]
            if not crossed:
                found.append(mates)
    return found


class MatchingsTest(unittest.TestCase):
    def test_by_hand(self):
        self.assertTrue(same_kinds(matchings(0), [()]))
        self.assertTrue(same_kinds(matchings(2), [(1, 0)]))
        self.assertTrue(same_kinds(matchings(4), [(1, 0, 3, 2), (3, 2, 1, 0)]))
        self.assertEqual(matchings(6), [(1, 0, 3, 2, 5, 4), (1, 0, 5, 4, 3, 2), (3, 2, 1, 0, 5, 4), (5, 2, 1, 4, 3, 0),
                                        (5, 4, 3, 2, 1, 0)])

    def test_by_force(self):
        for places in (0, 2, 4, 6):
            self.assertTrue(same_kinds(matchings(places), plain_matchings(places)))

    def test_more_places(self):
        for places, many in ((8, 14), (10, 42), (12, 132)):
            told = matchings(places)
            self.assertEqual(len(set(told)), many)
            self.assertEqual(told, sorted(told))
            for mates in told:
                self.assertTrue(all(mates[mate] == at and mate != at for at, mate in enumerate(mates)))
                self.assertFalse([1 for i, j in itertools.combinations(range(places), 2) if j < mates[i] < mates[j]])
                # What is told is refused by nothing that asks for a matching.
                self.assertEqual(len(sheets(mates, mates)), places // 2)

    def test_refuses(self):
        for thing in (-2, -1, 1, 3, 11, 13, 14, 16, 100) + NO_NUMBERS:
            self.assertEqual(told_error(matchings, thing), ("BadNumber", "places"), thing)
        matchings(places=2).clear()
        self.assertEqual(matchings(2), [(1, 0)])


class SheetsTest(unittest.TestCase):
    def test_by_hand(self):
        self.assertTrue(same_kinds(sheets((), ()), []))
        self.assertTrue(same_kinds(sheets((1, 0), (1, 0)), [(0, 1)]))
        self.assertTrue(same_kinds(sheets((1, 0, 3, 2), (1, 0, 3, 2)), [(0, 1), (2, 3)]))
        self.assertTrue(same_kinds(sheets((1, 0, 3, 2), (3, 2, 1, 0)), [(0, 1, 2, 3)]))
        self.assertEqual(sheets((5, 2, 1, 4, 3, 0), (5, 4, 3, 2, 1, 0)), [(0, 5), (1, 2, 3, 4)])

    def test_by_sets(self):
        chance = random.Random(2)
        for places in (2, 4, 6, 8, 10, 12):
            told = matchings(places)
            for _ in range(40):
                one, other = chance.choice(told), chance.choice(told)
                self.assertTrue(same_kinds(sheets(one, other), plain_sheets(one, other)))
                self.assertEqual(sheets(other, one), sheets(one, other))

    def test_refuses(self):
        for thing in NEAR:
            self.assertEqual(told_error(sheets, thing, (1, 0)), ("BadMatching",), thing)
            self.assertEqual(told_error(sheets, (1, 0), thing), ("BadMatching",), thing)
            self.assertEqual(told_error(sheets, thing, thing), ("BadMatching",), thing)
        for mates in itertools.product(range(4), repeat=4):
            goal = None if mates in plain_matchings(4) else ("BadMatching",)
            self.assertEqual(told_error(sheets, mates, mates), goal, mates)
        self.assertEqual(told_error(sheets, (), (1, 0)), ("BadMatching",))
        self.assertEqual(told_error(sheets, (1, 0), ()), ("BadMatching",))
        self.assertEqual(told_error(sheets, (1, 0, 3, 2), (1, 0)), ("BadMatching",))
        sheets(other=(1, 0), one=(1, 0)).clear()
        self.assertEqual(sheets((1, 0), (1, 0)), [(0, 1)])


if __name__ == "__main__":
    unittest.main()
