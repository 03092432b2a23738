import itertools
import random
import unittest

from ringcubes.matchings import matchings, sheets
from ringcubes.surfaces import put_behind
from tests.patchworks import plain_sheets
from tests.samples import NO_NUMBERS, same_kinds, told_error
from tests.test_matchings import NEAR
from tests.test_rooms import NO_PRIMES

TWO = (1, 0)
FLAT, TALL = (1, 0, 3, 2), (3, 2, 1, 0)
PLAIN = (((), 1),)
NO_SURFACES = (None, True, 0, "", "ab", [], {}, [((), 1)], (1,), ((),), (((),),), (((), 1, 1),), ([(), 1],),
               (([], 1),), (((), 0),), (((), 3),), (((), -1),), (((), True),), (((), 1.0),), (((), "1"),), (((), None),),
               (((2,), 1),), (((-1,), 1),), (((0, 0), 1),), (((1, 0), 1),), (((True,), 1),), (((False,), 1),),
               (((0.0,), 1),), (((0,), 1), ((), 1)), (((), 1), ((), 1)), (((), 1), ((), 2)), (((0,), 1), ((0,), 2)),
               (((1,), 1), ((0,), 1)), (((0,), 1), ((0, 1), 1), ((), 1)), ((0, 1),), (("0", 1),), (({}, 1),))


def plain_behind(prime, one, two, three, first, second):
    """Two surfaces put behind one another by the words of the document."""
    ahead, behind, left = plain_sheets(one, two), plain_sheets(two, three), plain_sheets(one, three)
    lots = [{place} for place in range(len(two))]
    for mates in (one, two, three):
        for place, mate in enumerate(mates):
            near = next(lot for lot in lots if place in lot)
            far = next(lot for lot in lots if mate in lot)
            if near is not far:
                lots.remove(far)
                near |= far
    total = {}
    for (dots, number), (more, times) in itertools.product(first, second):
        ways = [((), 1)]
        for lot in lots:
            s = sum(1 for sheet in ahead + behind if sheet[0] in lot)
            rims = [at for at, sheet in enumerate(left) if sheet[0] in lot]
            handles = (2 + len(lot) // 2 - s - len(rims)) // 2
            many = sum(1 for at in dots if ahead[at][0] in lot) + sum(1 for at in more if behind[at][0] in lot)
            if many + handles >= 2:
                options = []
            elif many + handles == 1:
                options = [(tuple(rims), 2 if handles else 1)]
            else:
                options = [(tuple(set(rims) - {bare}), 1) for bare in rims]
            ways = [(told + option, a * b) for told, a in ways for option, b in options]
        for told, a in ways:
            key = tuple(sorted(told))
            total[key] = (total.get(key, 0) + a * number * times) % prime
    return tuple((key, total[key]) for key in sorted(total) if total[key])


def some_surface(chance, prime, one, other):
    """A surface with a few dots in it."""
    rows = range(len(sheets(one, other)))
    total = {}
    for _ in range(chance.randrange(5)):
        total[tuple(at for at in rows if chance.random() < 0.3)] = chance.randrange(1, prime)
    return tuple((dots, total[dots]) for dots in sorted(total))


class PutBehindTest(unittest.TestCase):
    def test_by_hand(self):
        dot = (((0,), 1),)
        for prime, one, two, three, first, second, told in (
                (2, (), (), (), PLAIN, PLAIN, PLAIN), (5, (), (), (), (((), 3),), (((), 4),), (((), 2),)),
                (5, TWO, TWO, TWO, PLAIN, PLAIN, PLAIN), (5, TWO, TWO, TWO, dot, PLAIN, dot),
                (5, TWO, TWO, TWO, dot, dot, ()), (5, TWO, TWO, TWO, (), PLAIN, ()), (5, TWO, TWO, TWO, PLAIN, (), ()),
                # Two saddles, one behind the other: a tube, which is the sum of both ways to give one dot.
                (5, FLAT, TALL, FLAT, PLAIN, PLAIN, (((0,), 1), ((1,), 1))),
                (5, FLAT, TALL, FLAT, dot, PLAIN, (((0, 1), 1),)), (5, FLAT, TALL, FLAT, dot, dot, ()),
                (5, FLAT, TALL, FLAT, (((), 2), ((0,), 3)), (((), 4), ((0,), 1)), (((0,), 3), ((0, 1), 4), ((1,), 3))),
                (5, FLAT, FLAT, TALL, (((0,), 1), ((1,), 4)), PLAIN, ()),
                (5, FLAT, FLAT, TALL, (((0,), 1), ((1,), 1)), PLAIN, (((0,), 2),)),
                (2, FLAT, FLAT, TALL, (((0,), 1), ((1,), 1)), PLAIN, ()),
                (5, FLAT, FLAT, FLAT, (((0,), 1),), (((1,), 3),), (((0, 1), 3),))):
            got = put_behind(prime, one, two, three, first, second)
            self.assertTrue(same_kinds(got, told), (first, second, got))

    def test_handles(self):
        # Two sheets and two of them, glued along four mates into one lot with one sheet left on either side.
        one, two, three = (7, 2, 1, 4, 3, 6, 5, 0), tuple(at ^ 1 for at in range(8)), (7, 2, 1, 4, 3, 6, 5, 0)
        self.assertEqual((len(sheets(one, two)), len(sheets(one, three))), (1, 4))
        told = put_behind(3, one, two, three, PLAIN, PLAIN)
        self.assertEqual(told, tuple((tuple(at for at in range(4) if at != bare), 1) for bare in (3, 2, 1, 0)))
        found = 0
        for one, two, three in itertools.product(matchings(6), repeat=3):
            s = len(sheets(one, two)) + len(sheets(two, three))
            if s == 2 and len(sheets(one, three)) == 1:
                found += 1
                self.assertEqual(put_behind(5, one, two, three, PLAIN, PLAIN), (((0,), 2),))
                self.assertEqual(put_behind(2, one, two, three, PLAIN, PLAIN), ())
                self.assertEqual(put_behind(5, one, two, three, (((0,), 1),), PLAIN), ())
        self.assertGreater(found, 0)

    def test_by_the_words_of_the_document(self):
        chance = random.Random(8)
        for places in (0, 2, 4, 6, 8, 10, 12):
            for _ in range(40):
                one, two, three = [chance.choice(matchings(places)) for _ in range(3)]
                for prime in (2, 3, 7):
                    first = some_surface(chance, prime, one, two)
                    second = some_surface(chance, prime, two, three)
                    told = put_behind(prime, one, two, three, first, second)
                    self.assertTrue(same_kinds(told, plain_behind(prime, one, two, three, first, second)))
                    self.assertEqual(put_behind(prime, three, two, one, second, first), told)

    def test_which_two_come_first(self):
        chance = random.Random(9)
        for places in (2, 4, 6, 8):
            told = matchings(places)
            for _ in range(60):
                a, b, c, d = [chance.choice(told) for _ in range(4)]
                for prime in (2, 5):
                    f, g, h = [some_surface(chance, prime, one, other) for one, other in ((a, b), (b, c), (c, d))]
                    left = put_behind(prime, a, c, d, put_behind(prime, a, b, c, f, g), h)
                    self.assertEqual(left, put_behind(prime, a, b, d, f, put_behind(prime, b, c, d, g, h)))

    def test_plain_ones_change_nothing(self):
        chance = random.Random(10)
        for places in (0, 2, 4, 6, 8, 12):
            for _ in range(20):
                one, two = [chance.choice(matchings(places)) for _ in range(2)]
                told = some_surface(chance, 7, one, two)
                self.assertEqual(put_behind(7, one, one, two, PLAIN, told), told)
                self.assertEqual(put_behind(7, one, two, two, told, PLAIN), told)

    def test_refuses(self):
        for thing in NO_PRIMES:
            self.assertEqual(told_error(put_behind, thing, None, None, None, None, None), ("BadPrime",), thing)
        for thing in NEAR:
            for row in ((thing, None, None), (TWO, thing, None), (TWO, TWO, thing), (thing, thing, thing)):
                self.assertEqual(told_error(put_behind, 3, *row, None, None), ("BadMatching",), thing)
        for row in ((FLAT, TWO, FLAT), (FLAT, FLAT, TWO), (TWO, FLAT, FLAT), ((), TWO, TWO), (FLAT, FLAT, ())):
            self.assertEqual(told_error(put_behind, 3, *row, PLAIN, PLAIN), ("BadMatching",))
        for thing in NO_SURFACES + NO_NUMBERS:
            self.assertEqual(told_error(put_behind, 3, FLAT, FLAT, FLAT, thing, None), ("BadSurface",), thing)
            self.assertEqual(told_error(put_behind, 3, FLAT, FLAT, FLAT, PLAIN, thing), ("BadSurface",), thing)
        # The sheets between other matchings are fewer.
        wide = (((1,), 1),)
        self.assertEqual(told_error(put_behind, 3, FLAT, TALL, FLAT, wide, PLAIN), ("BadSurface",))
        self.assertEqual(told_error(put_behind, 3, FLAT, FLAT, TALL, PLAIN, wide), ("BadSurface",))
        self.assertEqual(put_behind(second=PLAIN, first=wide, three=TALL, two=FLAT, one=FLAT, prime=3), (((0,), 1),))
        self.assertEqual(told_error(put_behind, 2, TWO, TWO, TWO, (((), 2),), PLAIN), ("BadSurface",))


if __name__ == "__main__":
    unittest.main()
