import unittest

from ringcubes.braids import closed_braid
from ringcubes.cube import states
from ringcubes.drawings import Drawing, ways
from ringcubes.filmmaps import film_map
from ringcubes.filmranks import dot_ranks, film_ranks
from ringcubes.films import film_back, film_end, film_weight
from ringcubes.rooms import rooms
from ringcubes.views import mirrored
from tests.filmworks import some_film
from tests.plainrules import nothing_sums
from tests.samples import (BORROMEAN, EIGHT, HOPF, KINK, KINK_BACK, NO_DRAWINGS, NO_NUMBERS, NOTHING, RING, SAMPLES,
                           TREFOIL, by_spots, is_ascending, plain_rank, plain_rows, same_kinds, told_error)
from tests.test_films import NO_EVENTS, NO_FILMS
from tests.test_rooms import NO_PRIMES
from tests.walks import moves_let, touched_arcs, walk

FEW = (NOTHING, RING, KINK, KINK_BACK, HOPF, TREFOIL, closed_braid(3, [1, -2]), Drawing(HOPF.crossings, 1),
       closed_braid(4, [1, 3]))


def plain_ranks(prime, drawing, film):
    """The ranks of a film by the words of the document and dense rows."""
    end, more = film_end(drawing, film), film_weight(film)
    spots, goals = by_spots(drawing), by_spots(end)
    found = {}
    for height, weight in sorted(spots):
        here = spots[(height, weight)]
        sums = nothing_sums(prime, plain_rows(drawing, spots, (height, weight)), len(here))
        table = film_map(prime, drawing, film, height, weight)
        wide = len(states(end, height, weight + more))
        led = [[sum(a * row[k] for a, row in zip(one, table)) % prime for k in range(wide)] for one in sums]
        made = plain_rows(end, goals, (height - 1, weight + more))
        many = plain_rank(prime, made + led) - plain_rank(prime, made)
        if many:
            found[(height, weight)] = many
    return found


class FilmRanksTest(unittest.TestCase):
    def test_by_hand(self):
        self.assertEqual(film_ranks(3, RING, [("spot", 0)]), {(0, 1): 1})
        self.assertEqual(film_ranks(3, RING, [("spot", 0)] * 2), {})
        self.assertEqual(film_ranks(3, NOTHING, []), {(0, 0): 1})
        self.assertEqual(film_ranks(3, RING, [("split", 0, 1), ("join", 0, 1)]), {(0, 1): 1})
        self.assertEqual(film_ranks(2, RING, [("split", 0, 1), ("join", 0, 1)]), {})
        for drawing in SAMPLES:
            self.assertTrue(same_kinds(film_ranks(3, drawing, []), rooms(3, drawing)))

    def test_by_dense_rows(self):
        lost = 0
        for seed in range(60):
            drawing = FEW[seed % len(FEW)]
            film = some_film(drawing, seed, 1 + seed % 4)
            for prime in (2, 3):
                told = film_ranks(prime, drawing, film)
                self.assertTrue(same_kinds(told, plain_ranks(prime, drawing, film)))
                self.assertTrue(is_ascending(told))
                lost += told != rooms(prime, drawing)
        self.assertGreater(lost, 20)

    def test_bigger_drawings(self):
        for drawing, film in ((EIGHT, [("dot", 0)]), (EIGHT, [("saddle", (0, 0), (3, 0))]), (BORROMEAN, [("dot", 4)]),
                              (closed_braid(3, [1, 2, 1, 2, 1]), [("shed", 0, 0)])):
            if told_error(film_end, drawing, film) is None:
                self.assertEqual(film_ranks(3, drawing, film), plain_ranks(3, drawing, film))

    def test_mirror_and_way_back(self):
        for seed in range(30):
            drawing = FEW[seed % len(FEW)]
            film = some_film(drawing, seed + 40, 3)
            end, more = film_end(drawing, film), film_weight(film)
            for prime in (2, 5):
                told = film_ranks(prime, drawing, film)
                back = film_ranks(prime, mirrored(end), film_back(film))
                self.assertEqual(back, {(-i, -j - more): told[(i, j)] for i, j in sorted(told, key=lambda at: (-at[0], -at[1]))})

    def test_moves_elsewhere(self):
        words = set()
        for drawing, film in ((closed_braid(4, [1, 1, -1, 3, -3]), [("dot", 0), ("birth", 0)]),
                              (closed_braid(3, [1, 1, -2, 2, 1, 2]), [("dot", 0)]),
                              (Drawing(closed_braid(3, [1, 2, 1, -2]).crossings, 1), [("taken", 0, 0)]),
                              (closed_braid(4, [1, 1, 1, 3, 3]), [("shed", 0, 0), ("spot", 0)])):
            goal = film_ranks(3, drawing, film)
            for move, moved in moves_let(drawing):
                if 0 not in touched_arcs(drawing, move) and len(moved.crossings) <= 7:
                    if move[0] != "ring_kinked":
                        words.add(move[0])
                        self.assertEqual(film_ranks(3, moved, film), goal, move)
        self.assertGreaterEqual(len(words), 4)

    def test_refuses(self):
        big = closed_braid(2, [1] * 11)
        for thing in NO_PRIMES:
            self.assertEqual(told_error(film_ranks, thing, None, None), ("BadPrime",), thing)
            self.assertEqual(told_error(dot_ranks, thing, None, None), ("BadPrime",), thing)
        for thing in NO_DRAWINGS:
            self.assertEqual(told_error(film_ranks, 3, thing, None), ("BadDrawing", None))
            self.assertEqual(told_error(dot_ranks, 3, thing, None), ("BadDrawing", None))
        for thing in NO_FILMS:
            self.assertEqual(told_error(film_ranks, 3, big, thing), ("BadFilm", None))
        good = [("birth", 0), ("dot", big.arcs[0]), ("spot", 0)]
        for at in range(4):
            for thing in NO_EVENTS + (("death", 5), ("dot", 99), ("kinked", big.arcs[0], 1, 1), ("slid", 0)):
                self.assertEqual(told_error(film_ranks, 3, big, good[:at] + [thing]), ("BadFilm", at), thing)
        self.assertEqual(told_error(film_ranks, 3, big, good), ("TooMany", 10))
        for thing in (-1, 1, 7) + NO_NUMBERS:
            self.assertEqual(told_error(dot_ranks, 3, TREFOIL, thing), ("BadWay",), thing)
            self.assertEqual(told_error(dot_ranks, 3, big, thing), ("BadWay",), thing)
        self.assertEqual(told_error(dot_ranks, 3, RING, 0), ("BadWay",))
        self.assertEqual(told_error(dot_ranks, 3, big, 0), ("TooMany", 10))
        self.assertEqual(film_ranks(film=(), drawing=NOTHING, prime=2), {(0, 0): 1})
        self.assertEqual(dot_ranks(index=0, drawing=KINK, prime=2), {(0, 1): 1})


class DotRanksTest(unittest.TestCase):
    def test_by_hand(self):
        drawing = closed_braid(2, [1, 1, 1])
        self.assertTrue(same_kinds(dot_ranks(2, drawing, 0), {(0, 3): 1, (2, 7): 1, (3, 9): 1}))
        self.assertTrue(same_kinds(dot_ranks(3, drawing, 0), {(0, 3): 1}))

    def test_any_arc_of_a_way(self):
        for drawing in SAMPLES:
            for index, way in enumerate(ways(drawing)):
                for prime in (2, 3):
                    told = dot_ranks(prime, drawing, index)
                    for arc in way:
                        self.assertEqual(film_ranks(prime, drawing, [("dot", arc)]), told)
                    self.assertEqual(film_ranks(prime, drawing, [("dot", way[0]), ("dot", way[-1])]), {})

    def test_over_two(self):
        for drawing in SAMPLES + (closed_braid(3, [1, 2] * 4),):
            for index in range(len(ways(drawing))):
                told, sums = dot_ranks(2, drawing, index), {}
                for (i, j), many in told.items():
                    for spot in ((i, j), (i, j - 2)):
                        sums[spot] = sums.get(spot, 0) + many
                self.assertEqual(sums, rooms(2, drawing))

    def test_behind_moves(self):
        for seed in range(8):
            drawing = (TREFOIL, EIGHT, KINK, HOPF)[seed % 4]
            for prime in (2, 3):
                goal = sorted(sorted(dot_ranks(prime, drawing, index).items()) for index in range(len(ways(drawing))))
                for _, moved in walk(drawing, 5, 7, seed + 10):
                    rows = sorted(sorted(dot_ranks(prime, moved, index).items()) for index in range(len(ways(moved))))
                    if len(rows) == len(goal):
                        self.assertEqual(rows, goal)

    def test_ten_crossings(self):
        self.assertEqual(dot_ranks(3, closed_braid(2, [1] * 9), 0), {(0, 9): 1})


if __name__ == "__main__":
    unittest.main()
