import random
import unittest

from ringcubes.braids import closed_braid
from ringcubes.drawings import Drawing, way_count
from ringcubes.films import film_end, film_number
from ringcubes.ownsums import s_number
from tests.filmworks import events_let, some_film
from tests.samples import HANDS, HOPF, KINK, KINK_BACK, LEFT, LOOSE, MIXED, SMALL, TREFOIL, TWO_PIECES

KNOTS = SMALL + (HANDS, TWO_PIECES, closed_braid(3, [1, 1, -2, 1, -2]), closed_braid(3, [1, 2] * 3))


class SaddlesTest(unittest.TestCase):
    def test_each_saddle_makes_one_more_or_one_less(self):
        ups, downs = 0, 0
        for seed, drawing in enumerate(KNOTS):
            chance = random.Random(seed)
            let = [pair for pair in events_let(drawing, False) if pair[0][0] == "saddle"]
            for event, behind in chance.sample(let, min(len(let), 14)):
                self.assertEqual(abs(way_count(behind) - way_count(drawing)), 1)
                for prime in (2, 3):
                    more = s_number(prime, behind) - s_number(prime, drawing)
                    self.assertIn(more, (1, -1), event)
                    ups += more == 1
                    downs += more == -1
        self.assertGreater(min(ups, downs), 40)

    def test_rows_of_saddles_and_moves(self):
        words = ("saddle", "kinked", "unkinked", "laid_over", "pulled_off", "slid", "ring_kinked")
        for seed in range(14):
            drawing = (TREFOIL, HOPF, LEFT, KINK, LOOSE, MIXED, KINK_BACK)[seed % 7]
            film = some_film(drawing, seed, 6, most_rings=3, most_crossings=7, with_moves=True, words=words)
            saddles = 0
            here = drawing
            for event in film:
                before, here = here, film_end(here, [event])
                saddles += event[0] == "saddle"
                if event[0] != "saddle":
                    self.assertEqual(s_number(2, here), s_number(2, before))
            self.assertLessEqual(abs(s_number(3, here) - s_number(3, drawing)), saddles)

    def test_films_without_births_and_deaths(self):
        words = ("saddle", "split", "join", "shed", "taken", "dot", "spot", "kinked", "unkinked", "slid", "laid_over",
                 "pulled_off", "ring_kinked")
        changed = 0
        for seed in range(40):
            drawing = (TREFOIL, HOPF, LEFT, KINK, Drawing(TREFOIL.crossings, 1), closed_braid(4, [1, 3]))[seed % 6]
            film = some_film(drawing, seed, 6, most_rings=3, most_crossings=6, with_moves=True, words=words)
            end = film_end(drawing, film)
            for prime in (2, 3):
                more = s_number(prime, end) - s_number(prime, drawing)
                self.assertLessEqual(abs(more), -film_number(film))
                changed += more != 0
        self.assertGreater(changed, 10)

    def test_a_string_made_a_ring(self):
        # Two saddles and moves make a ring of the trefoil, whose s is 2: one would not do.
        self.assertEqual(s_number(2, TREFOIL), 2)
        seen = set()
        for event, behind in events_let(TREFOIL, False):
            if event[0] == "saddle":
                seen.add(s_number(2, behind))
        self.assertTrue(seen <= {1, 3})


if __name__ == "__main__":
    unittest.main()
