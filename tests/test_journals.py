import random
import unittest

from ringcubes.journals import journal_text, led_live
from ringcubes.live import LiveDrawing
from tests.samples import HOPF, NO_DRAWINGS, NO_NUMBERS, same_kinds, told_error
from tests.test_deedtexts import NO_DEED_TEXTS, NO_START_TEXTS
from tests.test_live import STARTS, some_deed

LINES = ["live braid 2 1 1 1", "mirror", "birth 0", "kinked 4 -1 0", "beside drawing 1 1 0 1 1 0", "unkinked 3"]


def some_live(seed, many=9):
    """A live drawing with some deeds, done and taken back."""
    chance = random.Random(seed)
    live = LiveDrawing(STARTS[seed % len(STARTS)])
    for _ in range(many):
        if chance.random() < 0.15:
            told_error(chance.choice((live.undo, live.redo)))
        elif len(live.drawing.crossings) <= 14:
            told_error(live.do, some_deed(chance, live.drawing))
    return live


class JournalTest(unittest.TestCase):
    def test_by_hand(self):
        self.assertEqual(journal_text(LiveDrawing(("drawing", [], 0))), "live drawing 0")
        live = LiveDrawing(("braid", 2, [1, 1, 1]))
        for deed in (("mirror",), ("birth", 0), ("kinked", 4, -1, 0), ("beside", ("drawing", [(1, 0, 1, 1, 0)], 1)),
                     ("unkinked", 3)):
            live.do(deed)
        self.assertEqual(journal_text(live), "\n".join(LINES))
        live.undo()
        self.assertEqual(journal_text(live=live), "\n".join(LINES[:-1]))
        told = led_live(text="\n".join(LINES))
        self.assertEqual(told.standing, 5)

    def test_there_and_back(self):
        deeds = 0
        for seed in range(50):
            live = some_live(seed)
            text = journal_text(live)
            told = led_live(text)
            self.assertIsInstance(told, LiveDrawing)
            self.assertEqual(journal_text(told), text)
            self.assertTrue(same_kinds((told.start, told.deeds(), told.standing), (live.start, live.deeds(), live.standing)))
            self.assertEqual(told.drawing, live.drawing)
            self.assertEqual((told.marks(), told.watched()), ([], {}))
            deeds += told.standing
        self.assertGreater(deeds, 150)

    def test_what_is_taken_back_is_not_told(self):
        live = led_live("\n".join(LINES))
        live.undo()
        told = led_live(journal_text(live))
        self.assertEqual(told_error(told.redo), ("NothingLeft",))

    def test_each_line_spoiled(self):
        for at in range(1, len(LINES)):
            for wrong in NO_DEED_TEXTS + ("turn 9", "death 5", "slid 77", "dot 99", "exchange 20", "part 50", "unkinked 0"):
                if "\n" in wrong:
                    continue
                text = "\n".join(LINES[:at] + [wrong] + LINES[at + 1:])
                self.assertEqual(told_error(led_live, text), ("BadText", at), wrong[:40])
                self.assertEqual(told_error(led_live, text + "\nx\ny"), ("BadText", at), wrong[:40])
            text = "\n".join(LINES[:at] + [""] + LINES[at:])
            self.assertEqual(told_error(led_live, text), ("BadText", at))
        self.assertEqual(told_error(led_live, "\n".join(LINES) + "\n"), ("BadText", len(LINES)))
        self.assertEqual(told_error(led_live, "live braid 2 1 1 1\nmirror\r\nmirror"), ("BadText", 1))

    def test_first_line_spoiled(self):
        for wrong in NO_START_TEXTS:
            self.assertEqual(told_error(led_live, "live " + wrong.replace("\n", " ")), ("BadText", 0), wrong[:40])
        for wrong in ("", "live", "live ", "Live braid 2", " live braid 2", "live  braid 2", "live braid 2 ", "braid 2", "mirror",
                      "lives braid 2", "live live braid 2", "live\tbraid 2", "live\nbraid 2", "\nlive braid 2"):
            self.assertEqual(told_error(led_live, wrong), ("BadText", 0), wrong)
            self.assertEqual(told_error(led_live, wrong + "\nmirror"), ("BadText", 0), wrong)

    def test_deeds_that_cannot_be_done_where_they_stand(self):
        rows = ["live drawing 1", "ring_kinked 1", "unkinked 0", "unkinked 0"]
        self.assertEqual(told_error(led_live, "\n".join(rows)), ("BadText", 3))
        self.assertIsNone(told_error(led_live, "\n".join(rows[:3])))
        births = ["live drawing 0"] + ["birth 0"] * 8
        self.assertEqual(led_live("\n".join(births)).drawing.rings, 8)
        self.assertEqual(told_error(led_live, "\n".join(births + ["birth 0", "nothing"])), ("BadText", 9))

    def test_refuses(self):
        for thing in NO_DRAWINGS + NO_NUMBERS + (HOPF, LiveDrawing, "live drawing 0"):
            self.assertEqual(told_error(journal_text, thing), ("BadLive",))
        for thing in NO_NUMBERS + (None, b"live drawing 0", ["live drawing 0"], LiveDrawing(("drawing", [], 0))):
            if not isinstance(thing, str):
                self.assertEqual(told_error(led_live, thing), ("BadText", 0))


if __name__ == "__main__":
    unittest.main()
