import random
import unittest

from ringcubes.deedtexts import deed_text
from ringcubes.desk import Desk
from ringcubes.drawings import Drawing
from ringcubes.drawtexts import drawing_text
from ringcubes.errors import RingError
from ringcubes.films import is_event
from ringcubes.journals import journal_text
from ringcubes.live import LiveDrawing, is_deed
from ringcubes.rooms import rooms
from tests.samples import KINK, NO_DRAWINGS, NO_NUMBERS, told_error
from tests.test_deedtexts import DEED_TEXTS, NO_DEED_TEXTS
from tests.test_live import BRAID, NO_NAMES, NO_STARTS, STARTS, WRONG_STARTS, all_told, some_deed

KNOWN = ("undo", "redo", "crossings", "watch a 2", "mirror")
STRANGE = ("", " ", "x", "hello", "Undo", "UNDO", " undo", "undo ", "undo 1", "redo\n", "crossings ", "crossing", "crossings 1",
           "older 2", "drawing 0", "drawing ", "journal 1", "plus a", "watch", "watch a", "watch a ", "watch a x", "watch a -1",
           "watch a 100", "watch a 02", "watch a +2", "watch a 2 ", "watch  a 2", "watch A 2", "watch a 2 3", "watch a,2",
           "watch abcdefghi 2", "watch  2", "watch a 1000", "drop", "drop ", "drop A", "drop a b", "drop a1", "drop abcdefghi",
           "rooms", "rooms A", "rooms a 2", "rooms ", "mark", "mark A", "mark ", "mark a b", "mark abcdefghi", "mark 1",
           "since", "since A", "since ", "since a b", "live", "live braid 2", "?", "done", "mirror\nmirror", "watch a 2\n",
           "unwatch a", "marks", "watched", "marked a", "told", "standing", "start", "do mirror", "beside", "braid 2 1",
           "watch a " + chr(0x663), "watch " + chr(0xe4) + " 2", "mark " + chr(0x430))


class DeskTest(unittest.TestCase):
    def test_by_hand(self):
        desk = Desk(("drawing", [], 1))
        self.assertIsInstance(desk.live, LiveDrawing)
        for line, answer in (("older", "-1 1 / 1 1"), ("crossings", "0"), ("rings", "1"), ("ways", "1"), ("drawing", "drawing 1"),
                             ("journal", "live drawing 1"), ("undo", "refused"), ("redo", "refused"), ("ring_kinked 1", "done"),
                             ("ring_kinked 1", "refused"), ("crossings", "1"), ("plus", "1"), ("minus", "0"), ("rings", "0"),
                             ("drawing", "drawing 0\ncrossing 1 0 1 1 0"), ("journal", "live drawing 1\nring_kinked 1"),
                             ("watch a 3", "done"), ("rooms a", "0 -1 1 / 0 1 1"), ("mark m", "done"), ("since m", "film"),
                             ("birth 0", "done"), ("since m", "film birth 0"), ("rooms a", "0 -2 1 / 0 0 2 / 0 2 1"),
                             ("saddle 0 0 1 0", "refused"), ("kinked 0 -1 1", "done"), ("since m", "film birth 0 / kinked 0 -1 1"),
                             ("undo", "done"), ("redo", "done"), ("mirror", "done"), ("since m", "no"), ("undo", "done"),
                             ("undo", "done"), ("undo", "done"), ("since m", "film"), ("undo", "done"), ("since m", "no"),
                             ("since n", "refused"), ("rooms b", "refused"), ("drop b", "refused"), ("rooms a", "refused"),
                             ("watch a 4", "refused"), ("watch a 0", "refused"), ("watch a 1", "refused"), ("watch a 97", "done"),
                             ("watch a 99", "refused"), ("drop a", "done"), ("drop a", "refused"), ("nothing", "?"),
                             ("beside braid 2 1", "done"), ("ways", "2"), ("part 0", "done"), ("journal",
                              "live drawing 1\nbeside braid 2 1\npart 0")):
            self.assertEqual(desk.say(line), answer, line)

    def test_older_and_watch_of_many_crossings(self):
        desk = Desk(("braid", 2, [1] * 11))
        self.assertEqual(desk.say("older"), "refused")
        self.assertEqual(desk.say("watch a 2"), "refused")
        self.assertEqual(desk.say("crossings"), "11")
        desk = Desk(("braid", 2, [1] * 10))
        self.assertEqual(desk.say("watch a 2"), "done")
        told = rooms(2, desk.live.drawing)
        self.assertEqual(desk.say("rooms a"), " / ".join(f"{h} {w} {many}" for (h, w), many in told.items()))

    def test_lines_of_deeds(self):
        for text, deed in DEED_TEXTS.items():
            for start in STARTS:
                desk, live = Desk(start), LiveDrawing(start)
                error = told_error(live.do, deed)
                self.assertEqual(desk.say(text), "refused" if error else "done")
                self.assertEqual(all_told(desk.live), all_told(live))

    def test_strange_lines(self):
        desk = Desk(BRAID)
        before = all_told(desk.live)
        for line in STRANGE + NO_DEED_TEXTS:
            if line not in KNOWN:
                if line == "redo":
                    continue
                self.assertEqual(desk.say(line), "?" if line != "crossings" else "3", line[:40])
        for thing in NO_DRAWINGS + NO_NUMBERS + (b"undo", ["undo"], ("undo",), ("mirror",)):
            if thing != "drawing":
                self.assertEqual(desk.say(thing), "?", thing)
        for thing in NO_NAMES:
            if isinstance(thing, str):
                for word in ("drop", "rooms", "mark", "since"):
                    self.assertEqual(desk.say(word + " " + thing), "?", thing)
                self.assertEqual(desk.say("watch " + thing + " 2"), "?", thing)
        self.assertEqual(all_told(desk.live), before)
        self.assertEqual(desk.say(line="crossings"), "3")

    def test_numbers_that_are_told(self):
        for seed in range(20):
            chance = random.Random(seed)
            desk = Desk(STARTS[seed % len(STARTS)])
            for _ in range(8):
                deed = some_deed(chance, desk.live.drawing)
                if is_deed(deed) and len(desk.live.drawing.crossings) <= 9:
                    before = all_told(desk.live)
                    answer = desk.say(deed_text(deed))
                    self.assertIn(answer, ("done", "refused"))
                    if answer == "refused":
                        self.assertEqual(all_told(desk.live), before)
                told = desk.live.told()
                for word in ("crossings", "minus", "plus", "rings", "ways"):
                    self.assertEqual(desk.say(word), str(told[word]))
                goal = "refused" if told["older"] is None else " / ".join(f"{w} {n}" for w, n in told["older"])
                self.assertEqual(desk.say("older"), goal)
                self.assertEqual(desk.say("drawing"), drawing_text(desk.live.drawing))
                self.assertEqual(desk.say("journal"), journal_text(desk.live))

    def test_the_live_drawing_changed_otherwise(self):
        desk = Desk(("drawing", [], 1))
        desk.live.do(("birth", 1))
        self.assertEqual(desk.say("rings"), "2")
        desk.live.watch("x", 2)
        self.assertEqual(desk.say("rooms x"), "0 -2 1 / 0 0 2 / 0 2 1")
        desk.live.mark("y")
        self.assertEqual(desk.say("since y"), "film")
        self.assertEqual(desk.say("spot 0"), "done")
        desk.live.undo()
        self.assertEqual(desk.say("redo"), "done")
        self.assertEqual(desk.live.since("y"), (("spot", 0),))
        self.assertEqual(desk.say("drop x"), "done")
        self.assertEqual(desk.live.watched(), {})
        desk.live = LiveDrawing(("drawing", KINK.crossings, 0))
        self.assertEqual(desk.say("drawing"), drawing_text(Drawing(KINK.crossings, 0)))

    def test_films(self):
        for seed in range(20):
            chance = random.Random(seed + 5)
            desk = Desk(STARTS[seed % len(STARTS)])
            desk.say("mark a")
            for _ in range(6):
                try:
                    desk.live.do(some_deed(chance, desk.live.drawing))
                except RingError:
                    pass
                film = desk.live.since("a")
                self.assertEqual(film is None, not all(is_event(deed) for deed in desk.live.deeds()))
                if film is None:
                    self.assertEqual(desk.say("since a"), "no")
                else:
                    lines = " / ".join(deed_text(event) for event in film)
                    self.assertEqual(desk.say("since a"), "film " + lines if film else "film")

    def test_refuses(self):
        for thing in NO_STARTS:
            self.assertEqual(told_error(Desk, thing), ("BadStart",), thing)
        for start, error in WRONG_STARTS:
            self.assertEqual(told_error(Desk, start), error)
        self.assertEqual(Desk(start=BRAID).live.standing, 0)


if __name__ == "__main__":
    unittest.main()
