import random
import unittest

from ringcubes.braids import closed_braid
from ringcubes.cube import states, step_rows
from ringcubes.drawings import Drawing
from ringcubes.filmmaps import closed_number, film_map
from ringcubes.films import film_back, film_end, film_number, film_weight
from ringcubes.views import mirrored
from tests.filmworks import PLAIN_WORDS, Tubes, events_let, marks_over, plain_film_led, some_film
from tests.samples import (EIGHT, HOPF, KINK, KINK_BACK, NO_DRAWINGS, NO_NUMBERS, NOTHING, RING, RINGS, SMALL, TREFOIL,
                           TWO_PIECES, by_spots, same_kinds, told_error)
from tests.test_films import NO_EVENTS, NO_FILMS
from tests.test_rooms import NO_PRIMES

FEW = (NOTHING, RING, Drawing([], 2), KINK, KINK_BACK, HOPF, closed_braid(4, [1, 3]), TREFOIL, closed_braid(3, [1, -2]))
RING_WORDS = ("birth", "death", "split", "join", "spot")


def product(prime, one, other):
    """The product of two tuples of rows."""
    return tuple(tuple(sum(a * row[k] for a, row in zip(line, other)) % prime for k in range(len(other[0]) if other else 0))
                 for line in one)


def spots_of(drawing):
    """All pairs (height, weight) of states."""
    return sorted(by_spots(drawing))


def all_maps(prime, drawing, film):
    """The maps of a film at all heights and weights."""
    return [film_map(prime, drawing, film, *spot) for spot in spots_of(drawing)]


class FilmMapTest(unittest.TestCase):
    def test_by_hand(self):
        self.assertTrue(same_kinds(film_map(5, Drawing([], 1), [("spot", 0)], 0, 1), ((1,),)))
        self.assertEqual(film_map(5, RING, [("spot", 0)], 0, -1), ((),))
        self.assertEqual(film_map(5, NOTHING, [("birth", 0)], 0, 0), ((1,),))
        self.assertEqual(film_map(5, RING, [("death", 0)], 0, -1), ((1,),))
        self.assertEqual(film_map(5, RING, [("death", 0)], 0, 1), ((),))
        self.assertEqual(film_map(5, RING, [("split", 0, 1), ("join", 0, 1)], 0, 1), ((2,),))
        self.assertEqual(film_map(2, RING, [("split", 0, 1), ("join", 0, 1)], 0, 1), ((0,),))
        self.assertEqual(film_map(3, RING, [], 0, 1), ((1,),))
        self.assertEqual(film_map(3, RING, [], 0, 2), ())
        self.assertEqual(film_map(3, Drawing([], 2), [("join", 0, 1)], 0, 0), ((1,), (1,)))

    def test_each_event_by_the_words_of_the_document(self):
        words = {}
        for drawing in FEW + (Drawing(HOPF.crossings, 2), Drawing(KINK.crossings, 3), TWO_PIECES):
            chance = random.Random(len(drawing.arcs))
            let = events_let(drawing, False)
            for word in PLAIN_WORDS:
                some = [event for event, _ in let if event[0] == word]
                for event in chance.sample(some, min(3, len(some))):
                    words[word] = words.get(word, 0) + 1
                    self.check_film(drawing, [event], 3)
        self.assertEqual(sorted(words), sorted(PLAIN_WORDS))

    def check_film(self, drawing, film, prime):
        end = film_end(drawing, film)
        goals = by_spots(end)
        for spot, rows in by_spots(drawing).items():
            there = goals.get((spot[0], spot[1] + film_weight(film)), [])
            told = []
            for state in rows:
                led = plain_film_led(drawing, film, state)
                self.assertEqual([goal for goal in led if goal not in there], [])
                told.append(tuple(led.get(goal, 0) % prime for goal in there))
            self.assertTrue(same_kinds(film_map(prime, drawing, film, *spot), tuple(told)))

    def test_films_by_the_words_of_the_document(self):
        for seed in range(25):
            drawing = FEW[seed % len(FEW)]
            self.check_film(drawing, some_film(drawing, seed, 5), (2, 3, 7)[seed % 3])

    def test_heights_and_weights_without_states(self):
        self.assertEqual(film_map(3, TREFOIL, [("dot", 0)], 7, 1), ())
        self.assertEqual(film_map(3, TREFOIL, [("dot", 0)], 0, 2), ())
        self.assertEqual(film_map(3, TREFOIL, [("dot", 0)], 0, -(10 ** 20)), ())
        self.assertEqual(film_map(3, TREFOIL, [("dot", 0)] * 3, 0, 5), ((),))

    def test_films_go_along_with_steps(self):
        for seed in range(20):
            drawing = FEW[3 + seed % 6]
            film = some_film(drawing, seed + 100, 4)
            end, more, prime = film_end(drawing, film), film_weight(film), (2, 3, 5)[seed % 3]
            for height, weight in spots_of(drawing):
                first = product(prime, step_rows(drawing, height, weight), film_map(prime, drawing, film, height + 1, weight))
                second = product(prime, film_map(prime, drawing, film, height, weight), step_rows(end, height, weight + more))
                if states(end, height + 1, weight + more) and first and second:
                    wide = len(states(end, height + 1, weight + more))
                    zero = ((0,) * wide,) * len(first)
                    self.assertEqual(first if any(first) else zero, second if any(second) else zero)

    def test_one_film_behind_another(self):
        for seed in range(15):
            drawing = FEW[seed % len(FEW)]
            film = some_film(drawing, seed + 300, 4)
            middle = film_end(drawing, film[:2])
            for height, weight in spots_of(drawing):
                one = film_map(5, drawing, film[:2], height, weight)
                other = film_map(5, middle, film[2:], height, weight + film_weight(film[:2]))
                if other:
                    self.assertEqual(film_map(5, drawing, film, height, weight), product(5, one, other))

    def test_back_in_the_mirror(self):
        for seed in range(25):
            drawing = FEW[seed % len(FEW)]
            film = some_film(drawing, seed + 400, 4)
            end, more = film_end(drawing, film), film_weight(film)
            back = film_back(film)
            for height, weight in spots_of(drawing):
                told = film_map(7, drawing, film, height, weight)
                turned = film_map(7, mirrored(end), back, -height, -weight - more)
                here = [flipped(state) for state in states(mirrored(drawing), -height, -weight)]
                there = [flipped(state) for state in states(mirrored(end), -height, -weight - more)]
                self.assertEqual(sorted(here), states(drawing, height, weight))
                goals = states(end, height, weight + more)
                for row, state in zip(told, states(drawing, height, weight)):
                    for number, goal in zip(row, goals):
                        self.assertEqual(turned[there.index(goal)][here.index(state)], number)

    def test_refuses(self):
        big = closed_braid(2, [1] * 11)
        for thing in NO_PRIMES:
            self.assertEqual(told_error(film_map, thing, None, None, None, None), ("BadPrime",), thing)
        for thing in NO_DRAWINGS:
            self.assertEqual(told_error(film_map, 3, thing, None, None, None), ("BadDrawing", None))
        for thing in NO_FILMS:
            self.assertEqual(told_error(film_map, 3, big, thing, None, None), ("BadFilm", None))
        good = [("birth", 0), ("dot", big.arcs[0]), ("spot", 0)]
        for at in range(4):
            for thing in NO_EVENTS + (("death", 5), ("dot", 99), ("kinked", big.arcs[0], 1, 1), ("slid", 0)):
                self.assertEqual(told_error(film_map, 3, big, good[:at] + [thing, None], None, None), ("BadFilm", at), thing)
        self.assertEqual(told_error(film_map, 3, big, [("dot", 99), ("slid", 0)], 0, 0), ("BadFilm", 0))
        for thing in NO_NUMBERS:
            self.assertEqual(told_error(film_map, 3, big, good, thing, thing), ("BadNumber", "height"), thing)
            self.assertEqual(told_error(film_map, 3, big, good, 0, thing), ("BadNumber", "weight"), thing)
        self.assertEqual(told_error(film_map, 3, big, good, 0, 0), ("TooMany", 10))
        self.assertEqual(film_map(weight=1, height=0, film=[], drawing=RING, prime=2), ((1,),))


def flipped(state):
    """The state with 0 and 1 exchanged in choice and all marks negated."""
    return tuple(1 - bit for bit in state[0]), tuple(-mark for mark in state[1])


class AlikeFilmsTest(unittest.TestCase):
    def check(self, drawing, one, other):
        self.assertEqual(film_end(drawing, one), film_end(drawing, other))
        for prime in (2, 5):
            self.assertEqual(all_maps(prime, drawing, one), all_maps(prime, drawing, other), (one, other))

    def test_births_that_go_at_once(self):
        for drawing in FEW:
            for k in range(drawing.rings + 1):
                for l in range(drawing.rings + 1):
                    if l != k:
                        self.check(drawing, [("birth", k), ("join", min(k, l), max(k, l))] if l < k else [], [])
                for arc in drawing.arcs[:2]:
                    self.check(drawing, [("birth", k), ("taken", arc, k)], [])
                    self.check(drawing, [("shed", arc, k), ("death", k)], [])
        for drawing in (RING, RINGS):
            for k in range(drawing.rings):
                for l in range(k + 1, drawing.rings + 1):
                    self.check(drawing, [("split", k, l), ("death", l)], [])

    def test_events_that_touch_nothing_in_common(self):
        drawing = Drawing(closed_braid(4, [1, 3]).crossings, 2)
        arcs = drawing.arcs
        for one, other in (([("spot", 0), ("spot", 1)], [("spot", 1), ("spot", 0)]),
                           ([("dot", arcs[0]), ("spot", 1)], [("spot", 1), ("dot", arcs[0])]),
                           ([("birth", 0), ("death", 2)], [("death", 1), ("birth", 0)]),
                           ([("shed", arcs[0], 0), ("spot", 2)], [("spot", 1), ("shed", arcs[0], 0)]),
                           ([("split", 0, 1), ("death", 2)], [("death", 1), ("split", 0, 1)]),
                           ([("birth", 2), ("join", 0, 1), ("spot", 1)], [("join", 0, 1), ("birth", 1), ("spot", 1)])):
            self.check(drawing, one, other)

    def sums(self, prime, drawing, films):
        """The maps of several films, added up."""
        rows = [all_maps(prime, drawing, film) for film in films]
        return [tuple(tuple(sum(numbers) % prime for numbers in zip(*lines)) for lines in zip(*maps))
                for maps in zip(*rows)]

    def test_saddles_and_their_way_back(self):
        found = 0
        for drawing in (HOPF, KINK_BACK, TREFOIL, closed_braid(4, [1, 3]), EIGHT, closed_braid(3, [1, -2])):
            for event, _ in events_let(drawing, False):
                if event[0] == "saddle":
                    found += 1
                    film = [event] + list(film_back([event]))
                    for prime in (2, 3):
                        dots = [[("dot", event[1][0])], [("dot", event[2][0])]]
                        self.assertEqual(all_maps(prime, drawing, film), self.sums(prime, drawing, dots))
        self.assertGreater(found, 20)

    def test_rings_taken_back_and_two_dots(self):
        for drawing in (KINK, HOPF, Drawing(TREFOIL.crossings, 1)):
            for arc in drawing.arcs:
                film = [("shed", arc, 0), ("taken", arc, 0)]
                self.assertEqual(all_maps(5, drawing, film), self.sums(5, drawing, [[("dot", arc)]] * 2))
                twice = all_maps(5, drawing, [("dot", arc)] * 2)
                self.assertFalse(any(number for rows in twice for row in rows for number in row))
        for k in range(3):
            film = [("split", k, 3), ("join", k, 3)]
            self.assertEqual(all_maps(5, RINGS, film), self.sums(5, RINGS, [[("spot", k)]] * 2))


class RingsAloneTest(unittest.TestCase):
    def test_pieces_handles_rims_and_dots(self):
        handles = 0
        for seed in range(120):
            rings = seed % 4
            film = some_film(Drawing([], rings), seed, 4 + seed % 9, most_rings=4, words=RING_WORDS)
            tubes = Tubes(rings, film)
            handles += any(part[0] for part in tubes.parts())
            end = film_end(Drawing([], rings), film)
            self.assertEqual(sum(number for number, _ in tubes.numbers.values()), film_number(film))
            for marks in marks_over(rings):
                weight = sum(marks)
                row = dict(zip([state[1] for state in states(end, 0, weight + film_weight(film))],
                               film_map(97, Drawing([], rings), film, 0, weight)[
                                   [state[1] for state in states(Drawing([], rings), 0, weight)].index(marks)]))
                for goal in marks_over(end.rings):
                    self.assertEqual(row.get(goal, 0), tubes.number(marks, goal) % 97, (film, marks, goal))
        self.assertGreater(handles, 10)


BALL = [("birth", 0), ("death", 0)]
DOTTED = [("birth", 0), ("spot", 0), ("death", 0)]
TORUS = [("birth", 0), ("split", 0, 1), ("join", 0, 1), ("death", 0)]


class ClosedNumberTest(unittest.TestCase):
    def test_by_hand(self):
        for film, number in ((TORUS, 2), ([], 1), (BALL, 0), (DOTTED, 1), (DOTTED * 3, 1), (TORUS * 3, 8), (TORUS + BALL, 0),
                             ([("birth", 0), ("spot", 0), ("spot", 0), ("death", 0)], 0),
                             (TORUS[:3] + [("spot", 0)] + TORUS[3:], 0), (TORUS[:3] + TORUS[1:], 0),
                             ([("birth", 0), ("birth", 0), ("spot", 1), ("death", 1), ("spot", 0), ("death", 0)], 1)):
            self.assertTrue(same_kinds(closed_number(film), number))

    def test_several_pieces(self):
        met = set()
        for seed in range(300):
            film = some_film(NOTHING, seed, 12, most_rings=3, words=RING_WORDS)
            while film_end(NOTHING, film).rings:
                film = film + [("death", 0)]
            tubes = Tubes(0, film)
            goal = 1
            for handles, dots, _, _ in tubes.parts():
                goal *= {(0, 1): 1, (1, 0): 2}.get((handles, dots), 0)
            self.assertEqual(closed_number(film), goal, film)
            met.add(goal)
        self.assertTrue(met >= {0, 1, 2})

    def test_long_films(self):
        self.assertEqual(closed_number(TORUS * 100), 2 ** 100)

    def test_refuses(self):
        for thing in NO_FILMS:
            self.assertEqual(told_error(closed_number, thing), ("BadFilm", None))
        for at in range(4):
            for thing in NO_EVENTS + (("death", 5), ("dot", 0), ("ring_kinked", 1), ("saddle", (0, 0), (1, 0))):
                self.assertEqual(told_error(closed_number, TORUS[:at] + [thing, None]), ("BadFilm", at), thing)
        self.assertEqual(told_error(closed_number, [("birth", 0)]), ("NotHere",))
        self.assertEqual(told_error(closed_number, TORUS[:2]), ("NotHere",))
        self.assertEqual(told_error(closed_number, [("birth", 0)] * 9), ("BadFilm", 8))
        self.assertEqual(closed_number(film=tuple(TORUS)), 2)


if __name__ == "__main__":
    unittest.main()
