import random
import unittest

from ringcubes.braids import closed_braid
from ringcubes.drawings import Drawing, way_count, ways
from ringcubes.errors import RingError
from ringcubes.films import event_done, film_end
from ringcubes.live import LiveDrawing, is_deed, started
from ringcubes.makings import side_by_side
from ringcubes.older import older_row
from ringcubes.partings import exchanged, parted
from ringcubes.rooms import rooms
from ringcubes.views import mirrored, turned_about, way_turned
from tests.filmworks import all_plain_events, events_let
from tests.samples import (EIGHT, HOPF, KINK, NO_DRAWINGS, NO_NUMBERS, RING, TREFOIL, same_kinds, told_error)
from tests.test_films import NO_EVENTS
from tests.test_rooms import NO_PRIMES
from tests.walks import all_moves

BRAID = ("braid", 2, [1, 1, 1])
KINK_START = ("drawing", [(1, 0, 1, 1, 0)], 1)
ONE_RING = ("drawing", [], 1)
STARTS = (BRAID, KINK_START, ONE_RING, ("drawing", (), 0), ("braid", 3, (1, -2, 1, -2)), ("braid", 8, []),
          ("braid", 4, [1, 1, 3]))
NO_STARTS = (None, True, 0, "braid", (), [], {}, ("braid",), ("braid", 2), ("braid", 2, [1], 0), ["braid", 2, [1]],
             ("Braid", 2, [1]), ("film", [], 0), (2, "braid", [1]), (None, [], 0), ([], [], 0), ("drawing", []),
             ("drawing", [], 0, 0), (True, [], 0), (b"braid", 2, []))
WRONG_STARTS = ((("drawing", None, 0), ("BadDrawing", "crossings")), (("drawing", [], 9), ("BadDrawing", "rings")),
                (("drawing", [(1, 0, 1, 2, 3)], 0), ("BadDrawing", "arcs")),
                (("drawing", [[1, 0, 1, 1, 0]], 0), ("BadDrawing", "crossings")), (("braid", 9, []), ("BadNumber", "strands")),
                (("drawing", [], True), ("BadDrawing", "rings")), (("braid", True, []), ("BadNumber", "strands")),
                (("drawing", [(1, 0, 1, 2, 3), (1, 1, 0, 3, 2)], 0), ("BadDrawing", "plane")),
                (("braid", 2, [2]), ("BadBraid",)), (("braid", 2, None), ("BadBraid",)), (("braid", 2, [0]), ("BadBraid",)))
NAMES = ("a", "z", "abcdefgh", "zzzzzzzz", "watch", "undo")
NO_NAMES = ("", "abcdefghi", "A", "aB", "a1", "a b", " a", "a ", "a\n", "\n", "ab-c", chr(228), chr(0x430), b"a", None, 0, 1, 9,
            True, ("a",), ["a"], {}, {"a": 1}, 1.0)


class StartedTest(unittest.TestCase):
    def test_right_ones(self):
        self.assertEqual(started(BRAID), closed_braid(2, [1, 1, 1]))
        self.assertEqual(started(KINK_START), Drawing(KINK.crossings, 1))
        self.assertEqual(started(start=ONE_RING), RING)
        self.assertEqual(started(("braid", 8, [])), Drawing([], 8))

    def test_wrong_ones(self):
        for thing in NO_STARTS:
            self.assertEqual(told_error(started, thing), ("BadStart",), thing)
            self.assertEqual(told_error(LiveDrawing, thing), ("BadStart",), thing)
        for start, error in WRONG_STARTS:
            self.assertEqual(told_error(started, start), error)
            self.assertEqual(told_error(LiveDrawing, start), error)


class IsDeedTest(unittest.TestCase):
    def test_right_ones(self):
        for deed in (("mirror",), ("about",), ("turn", 0), ("turn", 100), ("exchange", 7), ("part", 10 ** 30),
                     ("birth", 0), ("slid", 3), ("saddle", (3, 0), (3, 1)), ("kinked", 0, -1, 1)):
            self.assertIs(is_deed(deed), True)
        for start in STARTS:
            self.assertIs(is_deed(("beside", start)), True)
        self.assertIs(is_deed(thing=("mirror",)), True)

    def test_wrong_ones(self):
        for thing in NO_EVENTS:
            if thing not in (("mirror",), ("turn", 0)):
                self.assertIs(is_deed(thing), False, thing)
        for thing in (["mirror"], "mirror", ("mirror", 0), ("about", 1), ("about", None), ("turn",), ("turn", 0, 0),
                      ("exchange",), ("part", 0, 1), ("beside",), ("beside", BRAID, BRAID), ["beside", BRAID], ("undo",),
                      ("beside", list(BRAID)), ("Mirror",), ("beside",) + BRAID):
            self.assertIs(is_deed(thing), False, thing)
        for word in ("turn", "exchange", "part"):
            for thing in (-1, -100, (0,), [0]) + NO_NUMBERS:
                self.assertIs(is_deed((word, thing)), False, (word, thing))
        for start in NO_STARTS + tuple(start for start, _ in WRONG_STARTS):
            self.assertIs(is_deed(("beside", start)), False, start)


def plain_done(drawing, deed):
    """What a deed makes of a drawing, by the words of the document."""
    word = deed[0]
    if word == "mirror":
        return mirrored(drawing)
    if word == "about":
        return turned_about(drawing)
    if word == "turn":
        return way_turned(drawing, deed[1])
    if word == "exchange":
        return exchanged(drawing, deed[1])
    if word == "part":
        return parted(drawing, deed[1])[0 if drawing.crossings[deed[1]][0] == 1 else 1][0]
    if word == "beside":
        return side_by_side(drawing, started(deed[1]))
    return event_done(drawing, deed)


def some_deed(chance, drawing):
    """A tuple that might be done."""
    kind = chance.choice(("event", "event", "move", "move", "turn", "other"))
    if kind == "event":
        pool = all_plain_events(drawing)
    elif kind == "move":
        pool = all_moves(drawing)
    elif kind == "turn":
        pool = [("turn", index) for index in range(len(ways(drawing)) + 1)]
    else:
        many = len(drawing.crossings)
        pool = [("mirror",), ("about",), ("beside", chance.choice(STARTS))]
        pool += [(word, index) for word in ("exchange", "part") for index in range(many + 1)]
    words = sorted({deed[0] for deed in pool})
    if not words:
        return ("mirror",)
    word = chance.choice(words)
    return chance.choice([deed for deed in pool if deed[0] == word])


def as_tuples(thing):
    """A deed with lists as tuples."""
    if isinstance(thing, (list, tuple)):
        return tuple(as_tuples(one) for one in thing)
    return thing


def all_told(live):
    """Everything that a live drawing tells."""
    return (live.drawing, live.standing, live.deeds(), live.told(), live.watched(), live.marks(), live.start)


class DoTest(unittest.TestCase):
    def test_begin(self):
        live = LiveDrawing(BRAID)
        self.assertTrue(same_kinds((live.start, live.standing, live.deeds()), (("braid", 2, (1, 1, 1)), 0, [])))
        self.assertEqual(live.drawing, closed_braid(2, [1, 1, 1]))
        live = LiveDrawing(start=KINK_START)
        self.assertTrue(same_kinds(live.start, ("drawing", ((1, 0, 1, 1, 0),), 1)))
        self.assertEqual((live.watched(), live.marks()), ({}, []))

    def test_each_deed(self):
        for start in STARTS:
            drawing = started(start)
            many = len(drawing.crossings)
            deeds = all_plain_events(drawing) + all_moves(drawing) + [("mirror",), ("about",)]
            deeds += [(word, index) for word in ("turn", "exchange", "part") for index in range(many + 2)]
            deeds += [("beside", other) for other in STARTS]
            for deed in deeds[::2]:
                live = LiveDrawing(start)
                index_wrong = deed[0] == "part" and deed[1] >= many
                error = ("BadCrossing",) if index_wrong else told_error(plain_done, drawing, deed)
                self.assertEqual(told_error(live.do, deed), error)
                self.assertEqual(live.drawing, drawing if error else plain_done(drawing, deed), deed)
                self.assertEqual(live.deeds(), [] if error else [as_tuples(deed)])
                self.assertEqual(live.standing, 0 if error else 1)

    def test_errors(self):
        live = LiveDrawing(BRAID)
        for deed, error in ((("turn", 1), ("BadWay",)), (("exchange", 3), ("BadCrossing",)), (("part", 3), ("BadCrossing",)),
                            (("dot", 99), ("BadArc",)), (("death", 0), ("BadNumber", "ring")), (("slid", 9), ("BadNumber", "face")),
                            (("unkinked", 0), ("NotHere",)), (("beside", ("braid", 2, [1] * 18)), ("TooMany", 20)),
                            (("saddle", (0, 0), (0, 0)), ("NotHere",)), (("mirror", 0), ("BadDeed",)), (None, ("BadDeed",)),
                            (("beside", None), ("BadDeed",)), (["mirror"], ("BadDeed",))):
            self.assertEqual(told_error(live.do, deed), error)
        for thing in NO_DRAWINGS + NO_NUMBERS:
            self.assertEqual(told_error(live.do, thing), ("BadDeed",))
        self.assertEqual(all_told(live), all_told(LiveDrawing(BRAID)))
        full = LiveDrawing(("braid", 8, []))
        for deed in (("birth", 0), ("split", 0, 1), ("beside", ONE_RING)):
            self.assertEqual(told_error(full.do, deed), ("TooMany", 8))
        self.assertEqual(told_error(full.undo), ("NothingLeft",))
        self.assertEqual(told_error(full.redo), ("NothingLeft",))

    def test_parting_with_too_many_rings(self):
        # One of both drawings of a kink parted has nine rings here: parted tells so, and nothing is changed.
        live = LiveDrawing(("drawing", [(1, 0, 1, 1, 0)], 8))
        self.assertEqual(told_error(live.do, ("part", 0)), ("TooMany", 8))
        self.assertEqual(live.drawing, Drawing(KINK.crossings, 8))

    def test_they_return_none(self):
        live = LiveDrawing(deed_start())
        for call, args in ((live.do, (("birth", 0),)), (live.undo, ()), (live.redo, ()), (live.watch, ("a", 2)),
                           (live.unwatch, ("a",)), (live.mark, ("a",))):
            self.assertIsNone(call(*args))

    def test_arguments_by_name(self):
        live = LiveDrawing(start=BRAID)
        live.do(deed=("mirror",))
        live.watch(name="a", prime=2)
        live.unwatch(name="a")
        live.mark(name="b")
        self.assertEqual(live.marked(name="b"), live.drawing)
        self.assertEqual(live.since(name="b"), ())

    def test_later_changes_have_no_effect(self):
        rows, word = [(1, 0, 1, 1, 0)], [1, 1]
        live = LiveDrawing(("drawing", rows, 0))
        live.do(("beside", ("braid", 2, word)))
        rows.clear()
        word.clear()
        self.assertEqual(live.start, ("drawing", ((1, 0, 1, 1, 0),), 0))
        self.assertEqual(live.deeds(), [("beside", ("braid", 2, (1, 1)))])
        live.deeds().clear()
        live.told().clear()
        live.marks().append("x")
        live.undo()
        live.redo()
        self.assertEqual(live.deeds(), [("beside", ("braid", 2, (1, 1)))])
        self.assertEqual(len(live.told()), 6)
        live.watch("a", 2)
        live.watched()["a"][1].clear()
        live.watched().clear()
        self.assertEqual(live.watched()["a"][1], rooms(2, live.drawing))


def deed_start():
    """A start for a first deed."""
    return ("drawing", [], 1)


class RunsTest(unittest.TestCase):
    def test_as_if_done_afresh(self):
        for seed in range(40):
            chance = random.Random(seed)
            start = STARTS[seed % len(STARTS)]
            live, done, back = LiveDrawing(start), [], []
            for _ in range(25):
                kind = chance.choice(("do", "do", "do", "undo", "redo", "bad"))
                before = all_told(live)
                if kind == "do" and len(live.drawing.crossings) <= 9:
                    deed = some_deed(chance, live.drawing)
                    if told_error(live.do, deed) is None:
                        done, back = done + [as_tuples(deed)], []
                    else:
                        self.assertEqual(all_told(live), before)
                elif kind == "undo":
                    self.assertEqual(told_error(live.undo), None if done else ("NothingLeft",))
                    if done:
                        back = [done[-1]] + back
                        done = done[:-1]
                elif kind == "redo":
                    self.assertEqual(told_error(live.redo), None if back else ("NothingLeft",))
                    done, back = done + back[:1], back[1:]
                else:
                    self.assertIsNotNone(told_error(live.do, ("turn", 99)))
                    self.assertEqual(all_told(live), before)
                self.check_afresh(live, start, done)

    def check_afresh(self, live, start, done):
        afresh = LiveDrawing(start)
        for deed in done:
            afresh.do(deed)
        self.assertTrue(same_kinds(live.deeds(), done))
        self.assertEqual(live.standing, len(done))
        self.assertEqual(live.drawing, afresh.drawing)
        self.assertTrue(same_kinds(live.told(), afresh.told()))

    def test_what_is_refused_keeps_the_deeds_taken_back(self):
        live = LiveDrawing(BRAID)
        live.do(("mirror",))
        live.do(("birth", 0))
        live.undo()
        live.undo()
        self.assertEqual(told_error(live.do, ("turn", 5)), ("BadWay",))
        self.assertEqual(told_error(live.do, None), ("BadDeed",))
        live.redo()
        live.redo()
        self.assertEqual(live.deeds(), [("mirror",), ("birth", 0)])
        live.undo()
        live.do(("about",))
        self.assertEqual(told_error(live.redo), ("NothingLeft",))
        self.assertEqual(live.deeds(), [("mirror",), ("about",)])


class ToldTest(unittest.TestCase):
    def test_by_hand(self):
        told = LiveDrawing(BRAID).told()
        self.assertTrue(same_kinds(told, {"crossings": 3, "minus": 0, "older": ((1, 1), (3, 1), (5, 1), (9, -1)), "plus": 3,
                                          "rings": 0, "ways": 1}))
        told = LiveDrawing(("drawing", [(-1, 0, 1, 1, 0)], 2)).told()
        self.assertTrue(same_kinds(told, {"crossings": 1, "minus": 1, "older": ((-3, 1), (-1, 3), (1, 3), (3, 1)), "plus": 0,
                                          "rings": 2, "ways": 3}))

    def test_up_to_ten_crossings_and_above(self):
        for many in (9, 10, 11, 20):
            live = LiveDrawing(("braid", 2, [-1] * many))
            older = tuple(older_row(live.drawing).items()) if many <= 10 else None
            self.assertEqual(live.told(), {"crossings": many, "minus": many, "older": older, "plus": 0, "rings": 0,
                                           "ways": way_count(live.drawing)})


class WatchTest(unittest.TestCase):
    def test_by_hand(self):
        live = LiveDrawing(("braid", 2, [1, 1, 1]))
        live.watch("a", 3)
        live.do(("mirror",))
        self.assertTrue(same_kinds(live.watched(), {"a": (3, {(-3, -9): 1, (-2, -5): 1, (0, -3): 1, (0, -1): 1})}))

    def test_it_is_always_the_rooms(self):
        let_go, kept = set(), set()
        for seed in range(60):
            chance = random.Random(seed + 900)
            live = LiveDrawing(STARTS[seed % len(STARTS)])
            for _ in range(14):
                for name, prime in (("a", 2), ("b", 3)):
                    if name not in live.watched() and len(live.drawing.crossings) <= 10:
                        live.watch(name, prime)
                if len(live.drawing.crossings) > 9 or chance.random() < 0.2:
                    told_error(chance.choice((live.undo, live.redo)))
                else:
                    deed = some_deed(chance, live.drawing)
                    if told_error(live.do, deed) is None:
                        (kept if live.watched() else let_go).add(deed[0])
                for name, (prime, told) in live.watched().items():
                    if len(live.drawing.crossings) <= 10 and live.drawing.rings <= 4:
                        self.assertTrue(same_kinds(told, rooms(prime, live.drawing)), (name, live.deeds()))
        self.assertTrue(let_go <= {"saddle", "exchange", "part"})
        self.assertFalse(let_go & kept)
        self.assertGreater(len(kept), 10)

    def test_far_beyond_ten_crossings(self):
        live = LiveDrawing(("braid", 2, [1] * 8))
        live.watch("a", 3)
        live.do(("beside", ("braid", 3, [1, -2, 1, -2])))
        live.do(("beside", ("drawing", [], 2)))
        for deed in (("kinked", live.drawing.arcs[0], -1, 0), ("birth", 0), ("mirror",), ("about",), ("turn", 1), ("turn", 0),
                     ("split", 0, 3), ("join", 1, 2), ("death", 0), ("taken", live.drawing.arcs[3], 1), ("spot", 0),
                     ("dot", live.drawing.arcs[1]), ("shed", live.drawing.arcs[2], 0), ("ring_kinked", 1), ("death", 0)):
            live.do(deed)
            self.assertIn("a", live.watched(), deed)
        self.assertEqual((len(live.drawing.crossings), live.drawing.rings), (14, 0))
        told = live.watched()["a"][1]
        while live.deeds():
            live.undo()
        for _ in range(17):
            live.redo()
        self.assertEqual(live.watched(), {"a": (3, told)})
        # Without its kinks it is of twelve crossings; told by the parts, which may be watched by themselves.
        parts = LiveDrawing(("braid", 2, [1] * 8))
        for deed in (("mirror",), ("about",), ("turn", 0)):
            parts.do(deed)
        goal = {}
        for (i, j), many in rooms(3, parts.drawing).items():
            for (a, b), times in rooms(3, mirrored(EIGHT)).items():
                for more in (-1, 1):
                    goal[(i + a, j + b + more)] = goal.get((i + a, j + b + more), 0) + many * times
        self.assertEqual(sum(goal.values()), sum(told.values()))

    def test_what_lets_it_go(self):
        saddle = next(event for event, _ in events_let(HOPF, False) if event[0] == "saddle")
        for deed in (saddle, ("exchange", 0), ("part", 1), ("beside", ("braid", 2, [1] * 11))):
            live = LiveDrawing(("drawing", HOPF.crossings, 0))
            live.watch("a", 2)
            live.watch("b", 3)
            before = live.watched()
            live.do(deed)
            self.assertEqual(live.watched(), {}, deed)
            self.assertEqual(told_error(live.unwatch, "a"), ("NoWatch", "a"))
            live.undo()
            self.assertEqual(live.watched(), before)
            live.redo()
            self.assertEqual(live.watched(), {})
        live = LiveDrawing(("drawing", HOPF.crossings, 0))
        live.watch("a", 2)
        live.do(("beside", ("braid", 2, [1] * 10)))
        self.assertEqual(len(live.watched()), 1)

    def test_undo_and_what_was_watched_since(self):
        live = LiveDrawing(BRAID)
        live.watch("a", 2)
        live.do(("mirror",))
        live.watch("b", 3)
        live.unwatch("a")
        live.undo()
        self.assertEqual(live.watched(), {"a": (2, rooms(2, TREFOIL))})
        live.redo()
        self.assertEqual(live.watched(), {"a": (2, rooms(2, mirrored(TREFOIL)))})

    def test_names_and_primes(self):
        live = LiveDrawing(BRAID)
        for name in NAMES:
            live.watch(name, 2)
        self.assertEqual(list(live.watched()), sorted(NAMES))
        for thing in NO_NAMES:
            self.assertEqual(told_error(live.watch, thing, None), ("BadName",), thing)
            self.assertEqual(told_error(live.unwatch, thing), ("NoWatch", thing))
        self.assertEqual(told_error(live.unwatch, "b"), ("NoWatch", "b"))
        for thing in NO_PRIMES:
            self.assertEqual(told_error(live.watch, "a", thing), ("BadPrime",), thing)
        live.watch("a", 97)
        self.assertEqual(live.watched()["a"], (97, rooms(97, TREFOIL)))
        live.unwatch("a")
        self.assertNotIn("a", live.watched())
        big = LiveDrawing(("braid", 2, [1] * 11))
        self.assertEqual(told_error(big.watch, "A", 4), ("BadName",))
        self.assertEqual(told_error(big.watch, "a", 4), ("BadPrime",))
        self.assertEqual(told_error(big.watch, "a", 2), ("TooMany", 10))
        self.assertEqual(big.watched(), {})

    def test_many_rings(self):
        live = LiveDrawing(("braid", 2, [1, 1, 1]))
        live.watch("a", 2)
        for _ in range(8):
            live.do(("birth", 0))
        self.assertEqual(sum(live.watched()["a"][1].values()), 6 * 256)
        for _ in range(8):
            live.do(("death", 0))
        self.assertEqual(live.watched()["a"][1], rooms(2, TREFOIL))


class MarkTest(unittest.TestCase):
    def test_marks(self):
        live = LiveDrawing(BRAID)
        for name in reversed(NAMES):
            live.mark(name)
        self.assertEqual(live.marks(), sorted(NAMES))
        live.do(("mirror",))
        live.mark("a")
        self.assertEqual(live.marked("a"), mirrored(closed_braid(2, [1, 1, 1])))
        self.assertEqual(live.marked("z"), closed_braid(2, [1, 1, 1]))
        live.undo()
        self.assertEqual(live.marked("a"), mirrored(closed_braid(2, [1, 1, 1])))
        self.assertEqual(live.marks(), sorted(NAMES))

    def test_names(self):
        live = LiveDrawing(BRAID)
        live.mark("b")
        for thing in NO_NAMES:
            self.assertEqual(told_error(live.mark, thing), ("BadName",), thing)
            self.assertEqual(told_error(live.marked, thing), ("NoMark", thing))
            self.assertEqual(told_error(live.since, thing), ("NoMark", thing))
        self.assertEqual(told_error(live.marked, "a"), ("NoMark", "a"))
        self.assertEqual(told_error(live.since, "a"), ("NoMark", "a"))
        self.assertEqual(live.marks(), ["b"])

    def test_since(self):
        live = LiveDrawing(("drawing", [], 1))
        live.mark("a")
        self.assertTrue(same_kinds(live.since("a"), ()))
        live.do(("birth", 0))
        live.mark("b")
        live.do(("ring_kinked", 1))
        self.assertTrue(same_kinds(live.since("a"), (("birth", 0), ("ring_kinked", 1))))
        self.assertEqual(live.since("b"), (("ring_kinked", 1),))
        live.undo()
        live.undo()
        self.assertEqual(live.since("a"), ())
        self.assertIsNone(live.since("b"))
        # Equal deeds done again are as good; other ones that lead to the same drawing are not.
        live.do(("birth", 0))
        live.do(("spot", 1))
        self.assertEqual(live.since("b"), (("spot", 1),))
        live.undo()
        live.undo()
        live.do(("birth", 1))
        self.assertEqual(live.drawing, live.marked("b"))
        self.assertIsNone(live.since("b"))
        live.undo()
        live.do(("split", 0, 1))
        self.assertEqual(live.drawing, live.marked("b"))
        self.assertIsNone(live.since("b"))
        self.assertEqual(live.since("a"), (("split", 0, 1),))

    def test_other_deeds(self):
        live = LiveDrawing(BRAID)
        live.do(("mirror",))
        live.mark("a")
        live.do(("birth", 0))
        self.assertEqual(live.since("a"), (("birth", 0),))
        for deed in (("mirror",), ("about",), ("turn", 0), ("exchange", 0), ("part", 0), ("beside", ("drawing", [], 0))):
            live.do(deed)
            self.assertIsNone(live.since("a"))
            live.do(("birth", 0))
            self.assertIsNone(live.since("a"))
            while live.standing > 2:
                live.undo()
            self.assertEqual(live.since("a"), (("birth", 0),))

    def test_the_film_leads_from_the_mark_on(self):
        found = 0
        for seed in range(50):
            chance = random.Random(seed + 77)
            live = LiveDrawing(STARTS[seed % len(STARTS)])
            for _ in range(16):
                if chance.random() < 0.2:
                    live.mark(chance.choice("ab"))
                elif chance.random() < 0.25:
                    told_error(chance.choice((live.undo, live.redo)))
                elif len(live.drawing.crossings) <= 9:
                    try:
                        live.do(some_deed(chance, live.drawing))
                    except RingError:
                        pass
                for name in live.marks():
                    film = live.since(name)
                    if film is not None:
                        found += bool(film)
                        self.assertEqual(film_end(live.marked(name), film), live.drawing)
        self.assertGreater(found, 50)


if __name__ == "__main__":
    unittest.main()
