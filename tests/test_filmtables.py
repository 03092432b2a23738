import unittest

from ringcubes.braids import closed_braid
from ringcubes.cube import states
from ringcubes.drawings import Drawing
from ringcubes.filmmaps import film_map
from ringcubes.films import film_end, film_weight
from ringcubes.filmtables import film_table
from ringcubes.maps import composed, is_map, plain_map
from ringcubes.papers import move_paper
from tests.filmworks import plain_film_led, some_film
from tests.samples import (EIGHT, HOPF, KINK, KINK_BACK, NO_DRAWINGS, NOTHING, RING, SMALL, TREFOIL, fault_of_map,
                           plain_rank, plain_rows, by_spots, plain_states, same_kinds, told_error)
from tests.test_films import NO_EVENTS, NO_FILMS
from tests.walks import moves_let

FEW = (NOTHING, RING, KINK, KINK_BACK, HOPF, TREFOIL, closed_braid(3, [1, -2]), Drawing(HOPF.crossings, 1))


class FilmTableTest(unittest.TestCase):
    def test_by_hand(self):
        self.assertTrue(same_kinds(film_table(RING, [("spot", 0)]), {((), (1,)): {((), (-1,)): 1}}))
        self.assertEqual(film_table(NOTHING, [("birth", 0)]), {((), ()): {((), (1,)): 1}})
        self.assertEqual(film_table(RING, [("split", 0, 1), ("join", 0, 1)]), {((), (1,)): {((), (-1,)): 2}})
        self.assertEqual(film_table(RING, [("spot", 0)] * 2), {})
        for drawing in SMALL:
            self.assertEqual(film_table(drawing, []), plain_map(drawing))

    def test_films_are_maps(self):
        words = set()
        for seed in range(45):
            drawing = FEW[seed % len(FEW)]
            film = some_film(drawing, seed, 5, most_rings=2, most_crossings=5, with_moves=True)
            words.update(event[0] for event in film)
            table = film_table(drawing, film)
            end = film_end(drawing, film)
            self.assertIs(is_map(drawing, end, film_weight(film), table), True)
            if len(end.crossings) <= 4:
                self.assertIsNone(fault_of_map(drawing, end, film_weight(film), table))
        self.assertGreater(len(words), 12)

    def test_plain_films(self):
        for seed in range(20):
            drawing = FEW[seed % len(FEW)]
            film = some_film(drawing, seed + 70, 5)
            table, more = film_table(drawing, film), film_weight(film)
            for state in plain_states(drawing):
                led = plain_film_led(drawing, film, state)
                self.assertEqual(table.get(state, {}), {goal: number for goal, number in led.items() if number})
            end = film_end(drawing, film)
            for height, weight in by_spots(drawing):
                rows = []
                for state in states(drawing, height, weight):
                    goals = states(end, height, weight + more)
                    rows.append(tuple(table.get(state, {}).get(goal, 0) % 3 for goal in goals))
                self.assertEqual(film_map(3, drawing, film, height, weight), tuple(rows))

    def test_single_moves(self):
        for drawing in (KINK, HOPF, Drawing(KINK.crossings, 1), closed_braid(3, [1, 2, 1])):
            for move, _ in moves_let(drawing)[::3]:
                self.assertEqual(film_table(drawing, [move]), composed(plain_map(drawing), move_paper(drawing, move)[2][0]))

    def test_one_film_behind_another(self):
        for seed in range(20):
            drawing = FEW[seed % len(FEW)]
            film = some_film(drawing, seed + 170, 5, most_rings=2, most_crossings=5, with_moves=True)
            for at in range(len(film) + 1):
                one, other = film_table(drawing, film[:at]), film_table(film_end(drawing, film[:at]), film[at:])
                self.assertEqual(film_table(drawing, film), composed(one, other))

    def test_moves_alone_lose_nothing(self):
        words = ("kinked", "ring_kinked", "unkinked", "laid_over", "pulled_off", "slid")
        for seed in range(10):
            drawing = (HOPF, TREFOIL, KINK)[seed % 3]
            film = some_film(drawing, seed, 4, most_crossings=5, with_moves=True, words=words)
            self.assertTrue(film)
            end, table = film_end(drawing, film), film_table(drawing, film)
            spots, goals = by_spots(drawing), by_spots(end)
            for spot in spots:
                # What steps leave is led on without loss: the rank of a cone of both tells so.
                here, there = spots[spot], goals.get(spot, [])
                nexts, before = spots.get((spot[0] + 1, spot[1]), []), goals.get((spot[0] - 1, spot[1]), [])
                rows = plain_rows(drawing, spots, spot)
                cone = [row + [table.get(state, {}).get(goal, 0) for goal in there] for row, state in zip(rows, here)]
                made = [[0] * len(nexts) + row for row in plain_rows(end, goals, (spot[0] - 1, spot[1]))] if before else []
                lost = plain_rank(3, plain_rows(drawing, spots, (spot[0] - 1, spot[1])))
                kept = plain_rank(3, cone + made) - plain_rank(3, rows) - plain_rank(3, made)
                self.assertEqual(kept, len(here) - plain_rank(3, rows) - lost)

    def test_refuses(self):
        for thing in NO_DRAWINGS:
            self.assertEqual(told_error(film_table, thing, None), ("BadDrawing", None))
        big, ten = closed_braid(2, [1] * 11), closed_braid(2, [1, -1] * 5)
        for thing in NO_FILMS:
            self.assertEqual(told_error(film_table, big, thing), ("BadFilm", None))
        good = [("birth", 0), ("spot", 0), ("ring_kinked", 1)]
        for at in range(4):
            for thing in NO_EVENTS + (("death", 5), ("dot", 99), ("unkinked", 99)):
                self.assertEqual(told_error(film_table, big, good[:at] + [thing, None]), ("BadFilm", at), thing)
        self.assertEqual(told_error(film_table, big, []), ("TooMany", 10))
        # Eleven crossings on the way alone are too many, too.
        arc = ten.arcs[0]
        self.assertEqual(told_error(film_table, ten, [("kinked", arc, 1, 1), ("unkinked", 10)]), ("TooMany", 10))
        self.assertEqual(told_error(film_table, ten, [("kinked", arc, 1, 1), ("unkinked", 10), ("dot", 99)]), ("BadFilm", 2))
        self.assertEqual(film_table(film=(), drawing=EIGHT), plain_map(EIGHT))

    def test_nothing_handed_in_is_changed(self):
        film = [("spot", 0), ("birth", 1)]
        film_table(RING, film).clear()
        self.assertEqual(film, [("spot", 0), ("birth", 1)])
        self.assertEqual(len(film_table(RING, film)), 1)


if __name__ == "__main__":
    unittest.main()
