import unittest

from ringcubes import moves
from ringcubes.braids import closed_braid
from ringcubes.drawings import Drawing, way_count, ways
from ringcubes.faces import look_apart
from ringcubes.films import event_done, film_back, film_end, film_number, film_weight, is_event
from tests.filmworks import PLAIN_WORDS, all_plain_events, events_let, some_film
from tests.samples import (EIGHT, HOPF, KINK, NO_DRAWINGS, NO_NUMBERS, NOTHING, RING, RINGS, SMALL, TREFOIL, TWO_PIECES,
                           same_kinds, told_error)
from tests.walks import all_moves

FORMS = {"birth": "i", "death": "i", "split": "ij", "join": "ij", "shed": "ai", "taken": "ai", "saddle": "ss",
         "dot": "a", "spot": "i", "kinked": "ago", "ring_kinked": "g", "unkinked": "i", "laid_over": "ss",
         "pulled_off": "ii", "slid": "i"}
GOOD = {"i": (0, 3, 7, 100, 10 ** 30), "j": (10 ** 31,), "a": (0, 50, 99), "g": (1, -1), "o": (0, 1),
        "s": ((0, 0), (99, 1), (5, 1))}
BAD = {"i": (-1, -7) + NO_NUMBERS, "j": (-1, 0) + NO_NUMBERS, "a": (-1, 100) + NO_NUMBERS, "g": (0, 2, -2) + NO_NUMBERS,
       "o": (-1, 2) + NO_NUMBERS,
       "s": (0, (0,), (0, 2), (0, -1), (0, True), (True, 0), (-1, 0), (100, 1), (0, 0, 0), [0, 0], (), "00", (0.0, 0),
             (0, None), None)}
NO_EVENTS = (None, True, 0, "birth", "", (), [], {}, ("birth",), ["birth", 0], ("born", 0), (b"birth", 0), (0, "birth"),
             (("birth",), 0), ("BIRTH", 0), (None, 0), ([], 0), ("mirror",), ("turn", 0), ("split", 1, 1), ("split", 2, 1),
             ("join", 1, 1), ("join", 3, 0), ("split", 0, 1, 2), ("birth", 0, 0))
NO_FILMS = (None, True, 0, "", "film", {}, {0: ("birth", 0)}, 1.5)


class IsEventTest(unittest.TestCase):
    def test_right_ones(self):
        for word, form in FORMS.items():
            for at, kind in enumerate(form):
                for worth in GOOD[kind]:
                    values = [GOOD[other][-1] if other != "j" else GOOD["j"][0] for other in form]
                    values[at] = worth
                    self.assertIs(is_event((word,) + tuple(values)), True, (word, values))
        for event in (("saddle", (3, 0), (3, 0)), ("laid_over", (3, 0), (3, 1)), ("pulled_off", 4, 4), ("split", 0, 1),
                      ("join", 0, 99), ("saddle", (1, 0), (2, 1))):
            self.assertIs(is_event(event), True)

    def test_wrong_values(self):
        for word, form in FORMS.items():
            values = [GOOD[kind][0] for kind in form]
            self.assertTrue(is_event((word,) + tuple(values)))
            self.assertIs(is_event([word] + values), False)
            self.assertIs(is_event((word,) + tuple(values) + (0,)), False)
            self.assertIs(is_event((word,) + tuple(values)[:-1]), False)
            self.assertIs(is_event((word, tuple(values))), False)
            for at, kind in enumerate(form):
                for worth in BAD[kind]:
                    wrong = list(values)
                    wrong[at] = worth
                    self.assertIs(is_event((word,) + tuple(wrong)), False, (word, wrong))
        for thing in NO_EVENTS:
            self.assertIs(is_event(thing), False, thing)
        self.assertIs(is_event(thing=("birth", 0)), True)


class EventDoneTest(unittest.TestCase):
    def test_rings(self):
        for event, rings in ((("birth", 0), 4), (("birth", 3), 4), (("death", 2), 2), (("split", 0, 3), 4),
                             (("split", 2, 3), 4), (("join", 0, 2), 2), (("spot", 2), 3)):
            self.assertEqual(event_done(RINGS, event), Drawing([], rings))
        drawing = Drawing(TREFOIL.crossings, 2)
        for event, rings in ((("shed", 0, 2), 3), (("shed", 5, 0), 3), (("taken", 4, 1), 1), (("dot", 3), 2),
                             (("spot", 0), 2), (("birth", 1), 3), (("death", 0), 1)):
            self.assertEqual(event_done(drawing, event), Drawing(TREFOIL.crossings, rings))

    def test_saddles(self):
        # Two strands of a string with two ways that run along one face become one way.
        found = 0
        for drawing in SMALL:
            for event, behind in events_let(drawing, False):
                if event[0] != "saddle":
                    continue
                found += 1
                one, other = event[1][0], event[2][0]
                rows = [list(row) for row in drawing.crossings]
                for row in rows:
                    for slot in (1, 3):
                        if row[slot] in (one, other):
                            row[slot] = one + other - row[slot]
                self.assertEqual(behind, Drawing([tuple(row) for row in rows], drawing.rings))
                self.assertEqual(abs(way_count(behind) - way_count(drawing)), 1)
                same = any(one in way and other in way for way in ways(drawing))
                self.assertEqual(way_count(behind) > way_count(drawing), same)
        self.assertGreater(found, 50)

    def test_saddles_refused(self):
        apart, unlike = 0, 0
        for drawing in (TREFOIL, EIGHT, HOPF, TWO_PIECES):
            for event in all_plain_events(drawing):
                if event[0] != "saddle":
                    continue
                one, other = event[1:]
                wrong = one[0] == other[0] or one[1] != other[1] or look_apart(drawing, one, other)
                self.assertEqual(told_error(event_done, drawing, event), ("NotHere",) if wrong else None)
                apart += wrong and one[0] != other[0] and one[1] == other[1]
                unlike += one[1] != other[1]
        self.assertGreater(min(apart, unlike), 20)
        # Of unlike pieces any arcs will do, with sides of one number.
        self.assertEqual(len(ways(event_done(TWO_PIECES, ("saddle", (0, 1), (9, 1))))), len(ways(TWO_PIECES)) - 1)

    def test_moves(self):
        for drawing in (TREFOIL, Drawing(HOPF.crossings, 1), RING):
            for move in all_moves(drawing):
                error = told_error(getattr(moves, move[0]), drawing, *move[1:])
                self.assertEqual(told_error(event_done, drawing, move), error)
                if error is None:
                    self.assertEqual(event_done(drawing, move), getattr(moves, move[0])(drawing, *move[1:]))
        self.assertEqual(told_error(event_done, TREFOIL, ("unkinked", 99)), ("BadCrossing",))
        self.assertEqual(told_error(event_done, TREFOIL, ("slid", 5)), ("BadNumber", "face"))
        self.assertEqual(told_error(event_done, TREFOIL, ("kinked", 77, 1, 0)), ("BadArc",))
        self.assertEqual(told_error(event_done, TREFOIL, ("ring_kinked", 1)), ("NotHere",))
        self.assertEqual(told_error(event_done, closed_braid(2, [1] * 20), ("kinked", 4, 1, 0)), ("TooMany", 20))

    def test_wrong_arcs(self):
        drawing = Drawing(TREFOIL.crossings, 1)
        for event in (("shed", 6, 0), ("taken", 99, 0), ("dot", 6), ("saddle", (6, 0), (0, 0)), ("saddle", (0, 0), (6, 0)),
                      ("shed", 6, 9), ("taken", 6, 9), ("saddle", (7, 0), (7, 1))):
            self.assertEqual(told_error(event_done, drawing, event), ("BadArc",), event)
        self.assertEqual(told_error(event_done, NOTHING, ("dot", 0)), ("BadArc",))

    def test_wrong_rings(self):
        drawing = Drawing(TREFOIL.crossings, 2)
        for event in (("birth", 3), ("death", 2), ("split", 2, 3), ("split", 0, 3), ("split", 1, 10 ** 20), ("join", 0, 2),
                      ("join", 2, 3), ("shed", 0, 3), ("taken", 0, 2), ("spot", 2), ("birth", 9)):
            self.assertEqual(told_error(event_done, drawing, event), ("BadNumber", "ring"), event)
        for event in (("death", 0), ("split", 0, 1), ("join", 0, 1), ("spot", 0), ("birth", 1)):
            self.assertEqual(told_error(event_done, NOTHING, event), ("BadNumber", "ring"), event)
        for event in (("birth", 2), ("split", 0, 2), ("split", 1, 2), ("join", 0, 1), ("shed", 0, 2), ("death", 1)):
            self.assertIsNone(told_error(event_done, drawing, event), event)

    def test_too_many_rings(self):
        full = Drawing(TREFOIL.crossings, 8)
        for event in (("birth", 8), ("birth", 0), ("split", 7, 8), ("shed", 0, 8)):
            self.assertEqual(told_error(event_done, full, event), ("TooMany", 8))
        for event in (("birth", 9), ("split", 8, 9), ("split", 0, 9), ("shed", 0, 9)):
            self.assertEqual(told_error(event_done, full, event), ("BadNumber", "ring"))
        self.assertEqual(event_done(full, ("join", 0, 7)).rings, 7)

    def test_refuses(self):
        for thing in NO_DRAWINGS:
            self.assertEqual(told_error(event_done, thing, None), ("BadDrawing", None))
        for thing in NO_EVENTS:
            self.assertEqual(told_error(event_done, TREFOIL, thing), ("BadEvent",), thing)
        self.assertEqual(event_done(event=("birth", 0), drawing=NOTHING), RING)

    def test_plain_events_keep_signs(self):
        for drawing in SMALL:
            for event, behind in events_let(drawing, False):
                self.assertEqual([row[0] for row in behind.crossings], [row[0] for row in drawing.crossings])
                self.assertEqual(behind.arcs, drawing.arcs)
                if event[0] != "saddle":
                    self.assertEqual(behind.crossings, drawing.crossings)


class FilmTest(unittest.TestCase):
    def test_end(self):
        self.assertEqual(film_end(TREFOIL, []), TREFOIL)
        self.assertEqual(film_end(NOTHING, [("birth", 0), ("ring_kinked", 1), ("unkinked", 0)]), RING)
        for seed in range(20):
            drawing = SMALL[seed % len(SMALL)]
            film = some_film(drawing, seed, 6, with_moves=True, most_crossings=7)
            end = drawing
            for event in film:
                end = event_done(end, event)
            self.assertEqual(film_end(drawing, film), end)
            self.assertEqual(film_end(drawing, tuple(film)), end)

    def test_which_event_is_wrong(self):
        good = [("birth", 0), ("birth", 1), ("split", 0, 1), ("join", 1, 2), ("spot", 0)]
        for at in range(len(good) + 1):
            for thing in NO_EVENTS + (("death", 7), ("dot", 0), ("unkinked", 0)):
                film = good[:at] + [thing] + [None]
                self.assertEqual(told_error(film_end, NOTHING, film), ("BadFilm", at), thing)
            for thing in NO_EVENTS:
                film = good[:at] + [thing, 0]
                self.assertEqual(told_error(film_number, film), ("BadFilm", at), thing)
                self.assertEqual(told_error(film_weight, film), ("BadFilm", at), thing)
                self.assertEqual(told_error(film_back, film), ("BadFilm", at), thing)
            for move in (("unkinked", 0), ("slid", 0), ("laid_over", (0, 0), (1, 0))):
                self.assertEqual(told_error(film_back, good[:at] + [move] + good[at:]), ("BadFilm", at))
                self.assertEqual(film_number(good[:at] + [move] + good[at:]), 0)
        full = [("birth", 0)] * 9
        self.assertEqual(told_error(film_end, NOTHING, full), ("BadFilm", 8))

    def test_no_films(self):
        for thing in NO_FILMS:
            self.assertEqual(told_error(film_end, NOTHING, thing), ("BadFilm", None))
            for call in (film_number, film_weight, film_back):
                self.assertEqual(told_error(call, thing), ("BadFilm", None))
        for thing in NO_DRAWINGS:
            self.assertEqual(told_error(film_end, thing, None), ("BadDrawing", None))
        self.assertEqual(film_end(film=(), drawing=RING), RING)
        self.assertEqual((film_number(film=()), film_weight(film=()), film_back(film=())), (0, 0, ()))

    def test_numbers(self):
        for event, number, weight in ((("birth", 0), 1, 1), (("death", 9), 1, 1), (("split", 0, 1), -1, -1),
                                      (("join", 0, 1), -1, -1), (("shed", 0, 0), -1, -1), (("taken", 0, 0), -1, -1),
                                      (("saddle", (0, 0), (1, 0)), -1, -1), (("dot", 0), 0, -2), (("spot", 0), 0, -2),
                                      (("kinked", 0, 1, 1), 0, 0), (("slid", 3), 0, 0), (("ring_kinked", 1), 0, 0),
                                      (("unkinked", 3), 0, 0), (("pulled_off", 3, 4), 0, 0)):
            self.assertTrue(same_kinds((film_number([event]), film_weight([event])), (number, weight)))
            many = [event, ("birth", 0), event, ("dot", 1)]
            self.assertEqual((film_number(many), film_weight(many)), (2 * number + 1, 2 * weight - 1))

    def test_back(self):
        film = [("birth", 3), ("split", 0, 4), ("shed", 5, 1), ("saddle", (3, 0), (7, 1)), ("dot", 2), ("spot", 1),
                ("taken", 1, 0), ("join", 2, 3), ("death", 0)]
        told = (("birth", 0), ("split", 2, 3), ("shed", 1, 0), ("spot", 1), ("dot", 2), ("saddle", (3, 1), (7, 0)),
                ("taken", 5, 1), ("join", 0, 4), ("death", 3))
        self.assertTrue(same_kinds(film_back(film), told))
        self.assertEqual(film_back(told), tuple(film))
        words = set()
        for seed in range(40):
            drawing = SMALL[seed % len(SMALL)]
            film = some_film(drawing, seed, 7)
            words.update(event[0] for event in film)
            end = film_end(drawing, film)
            self.assertEqual(film_end(end, film_back(film)), drawing)
            self.assertEqual(film_number(film_back(film)), film_number(film))
        self.assertEqual(sorted(words), sorted(PLAIN_WORDS))

    def test_films_are_not_changed(self):
        film = [("birth", 0), ("spot", 0)]
        for call in (film_number, film_weight, film_back):
            call(film)
        film_end(KINK, film)
        self.assertEqual(film, [("birth", 0), ("spot", 0)])


if __name__ == "__main__":
    unittest.main()
