import random
import unittest

from ringcubes.deedtexts import deed_of_text, deed_text, start_of_text, start_text
from ringcubes.live import is_deed, started
from tests.samples import (HOPF, NO_DRAWINGS, NO_NUMBERS, SAMPLES, same_kinds, told_error)
from tests.filmworks import all_plain_events
from tests.test_drawtexts import SPOILED
from tests.test_films import BAD, FORMS, GOOD, NO_EVENTS
from tests.test_live import NO_STARTS, STARTS, WRONG_STARTS, as_tuples
from tests.walks import all_moves

START_TEXTS = {"drawing 0": ("drawing", (), 0), "drawing 8": ("drawing", (), 8),
               "drawing 1 1 0 1 1 0": ("drawing", ((1, 0, 1, 1, 0),), 1),
               "drawing 0 1 1 2 0 3 / 1 3 0 2 1": ("drawing", HOPF.crossings, 0),
               "braid 2 1 1 1": ("braid", 2, (1, 1, 1)), "braid 2": ("braid", 2, ()), "braid 8 7 -7": ("braid", 8, (7, -7)),
               "braid 1": ("braid", 1, ()), "braid 3 1 -2": ("braid", 3, (1, -2))}
NO_START_TEXTS = ("", " ", "drawing", "braid", "drawing ", "braid ", "drawing 9", "drawing -1", "braid 0", "braid 9", "braid 2 2",
                  "braid 2 0", "braid 2 -2", "braid 2 1 / 1", "drawing 0 /", "drawing 0 / ", "drawing 0 / 1 0 1 1 0",
                  "drawing 0 1 0 1 1 0 /", "drawing 0 1 0 1 1 0 / ", "drawing 0 1 0 1 1", "drawing 0 1 0 1 1 0 0",
                  "drawing 0 1 0 1 2 3", "drawing 0 1 0 1 1 0 1 2 3 3 2", "drawing 0 1 0 1 1 0/1 2 3 3 2",
                  "drawing 0 1 0 1 1 0  /  1 2 3 3 2", "drawing 0 1 0 1 1 0 / 1 2 3 3 2\n", "drawing 0\n", "\ndrawing 0",
                  "drawing  0", " drawing 0", "drawing 0 ", "Drawing 0", "drawing 00", "drawing +0", "drawing -0", "braid 02",
                  "braid 2 +1", "braid 2 01", "braid 2 1 ", "braid  2 1", "braid 2\t1", "braid 2,1", "film 0", "mirror", "live",
                  "braid 2 " + chr(0x661), "braid " + chr(178), "drawing 0 1 0 1 1 0 / / 1 2 3 3 2", "braid 2 " + "1 " * 20 + "1",
                  "drawing 0 1 0 1 100 0", "drawing 0 2 0 1 1 0", "drawing 0 1 0 1 2 3 / 1 1 0 3 2", "drawing 1" + "0" * 5000)
DEED_TEXTS = {"mirror": ("mirror",), "about": ("about",), "turn 0": ("turn", 0), "exchange 19": ("exchange", 19),
              "part 99": ("part", 99), "kinked 4 -1 0": ("kinked", 4, -1, 0), "saddle 3 0 5 0": ("saddle", (3, 0), (5, 0)),
              "beside braid 2 1": ("beside", ("braid", 2, (1,))), "birth 0": ("birth", 0), "split 0 1": ("split", 0, 1),
              "shed 99 3": ("shed", 99, 3), "ring_kinked -1": ("ring_kinked", -1), "laid_over 0 1 7 0": ("laid_over", (0, 1), (7, 0)),
              "pulled_off 3 4": ("pulled_off", 3, 4), "slid 12": ("slid", 12), "spot 99": ("spot", 99), "dot 0": ("dot", 0),
              "beside drawing 1 1 0 1 1 0": ("beside", ("drawing", ((1, 0, 1, 1, 0),), 1)), "unkinked 0": ("unkinked", 0),
              "beside drawing 0 1 1 2 0 3 / 1 3 0 2 1": ("beside", ("drawing", HOPF.crossings, 0)),
              "join 2 9": ("join", 2, 9), "death 7": ("death", 7), "taken 5 0": ("taken", 5, 0)}
NO_DEED_TEXTS = ("", " ", "mirror ", " mirror", "mirror 0", "Mirror", "mirror\n", "\nmirror", "mirrors", "about 0", "turn",
                 "turn -1", "turn 100", "turn 01", "turn +1", "turn 1 ", "turn  1", "turn 1 1", "turn x", "exchange", "part -1",
                 "part 0 0", "kinked 4 -1", "kinked 4 -1 0 0", "kinked 4 0 0", "kinked 4 2 0", "kinked 4 1 2", "kinked 100 1 0",
                 "kinked -1 1 0", "saddle 3 0 5", "saddle 3 0 5 2", "saddle 3 0 5 0 0", "saddle", "saddle (3, 0) (5, 0)",
                 "split 1 1", "split 1 0", "join 0 0", "split 0", "birth", "birth 100", "beside", "beside ", "beside braid",
                 "beside braid 2 2", "beside  braid 2", "beside braid 2 ", "beside beside braid 2", "undo", "redo", "crossings",
                 "watch a 2", "live braid 2", "birth " + chr(0x663), "birth 1" + "0" * 5000, "birth 0\n", "birth\t0")


class StartTextTest(unittest.TestCase):
    def test_by_hand(self):
        for text, start in START_TEXTS.items():
            self.assertEqual(start_text(start), text)
            self.assertTrue(same_kinds(start_of_text(text), start), text)
        self.assertEqual(start_text(start=("drawing", [(1, 0, 1, 1, 0)], 1)), "drawing 1 1 0 1 1 0")
        self.assertEqual(start_text(("braid", 2, [1, 1, 1])), "braid 2 1 1 1")
        self.assertEqual(start_of_text(text="braid 2"), ("braid", 2, ()))

    def test_there_and_back(self):
        rows = [("drawing", list(drawing.crossings), drawing.rings) for drawing in SAMPLES] + list(STARTS)
        rows.append(("braid", 5, [1, -2, 3, -4] * 5))
        for start in rows:
            text = start_text(start)
            self.assertTrue(same_kinds(start_of_text(text), (start[0],) + as_tuples(start[1:])))
            self.assertEqual(started(start_of_text(text)), started(start))

    def test_refuses(self):
        for thing in NO_STARTS:
            self.assertEqual(told_error(start_text, thing), ("BadStart",), thing)
        for start, error in WRONG_STARTS:
            self.assertEqual(told_error(start_text, start), error)
        for text in NO_START_TEXTS:
            self.assertEqual(told_error(start_of_text, text), ("BadText", 0), text[:40])
        for thing in NO_DRAWINGS + NO_NUMBERS + (b"braid 2", ["braid 2"], ("braid", 2, ())):
            self.assertEqual(told_error(start_of_text, thing), ("BadText", 0), thing)

    def test_each_number_spoiled(self):
        for text in START_TEXTS:
            words = text.split(" ")
            for place in range(1, len(words)):
                for form in SPOILED:
                    wrong = " ".join(words[:place] + [form.format(words[place])] + words[place + 1:])
                    if wrong in START_TEXTS or words[place] == "/" or wrong.split(" ")[place] in ("-1", "-7"):
                        continue
                    if form == "" and place == len(words) - 1:
                        self.assertEqual(told_error(start_of_text, wrong), ("BadText", 0))
                    if told_error(start_of_text, wrong) is None:
                        self.assertEqual(start_text(start_of_text(wrong)), wrong)
                        self.assertIn(form, ("-{}",))


class DeedTextTest(unittest.TestCase):
    def test_by_hand(self):
        for text, deed in DEED_TEXTS.items():
            self.assertEqual(deed_text(deed), text)
            self.assertTrue(same_kinds(deed_of_text(text), deed), text)
        self.assertEqual(deed_text(deed=("beside", ("braid", 2, [1]))), "beside braid 2 1")
        self.assertEqual(deed_of_text(text="mirror"), ("mirror",))

    def test_there_and_back(self):
        chance = random.Random(3)
        deeds = [event for drawing in SAMPLES for event in all_plain_events(drawing) + all_moves(drawing)]
        deeds = chance.sample(deeds, 900) + [("beside", start) for start in STARTS]
        deeds += [(word, number) for word in ("turn", "exchange", "part") for number in (0, 9, 10, 99)]
        texts = set()
        for deed in deeds:
            if is_deed(deed):
                text = deed_text(deed)
                texts.add(text)
                self.assertTrue(same_kinds(deed_of_text(text), as_tuples(deed)))
        self.assertEqual(len(texts), len({as_tuples(deed) for deed in deeds if is_deed(deed)}))

    def test_forms(self):
        for word, form in FORMS.items():
            values = [GOOD[kind][0] if kind != "j" else 99 for kind in form]
            text = deed_text((word,) + tuple(values))
            self.assertEqual(deed_of_text(text), (word,) + tuple(values))
            for wrong in (text + " 0", text + " ", text.rsplit(" ", 1)[0], text.replace(" ", "  ", 1), text.upper()):
                self.assertEqual(told_error(deed_of_text, wrong), ("BadText", 0), wrong)
            for at, kind in enumerate(form):
                for worth in BAD[kind]:
                    wrong = (word,) + tuple(values[:at]) + (worth,) + tuple(values[at + 1:])
                    self.assertEqual(told_error(deed_text, wrong), ("BadDeed",), wrong)

    def test_numbers_above_99(self):
        for deed in (("birth", 100), ("split", 0, 100), ("turn", 100), ("part", 10 ** 30), ("slid", 100), ("shed", 99, 100),
                     ("pulled_off", 100, 3), ("exchange", 101), ("spot", 1000)):
            self.assertTrue(is_deed(deed))
            self.assertEqual(told_error(deed_text, deed), ("BadDeed",))
        self.assertEqual(deed_text(("split", 98, 99)), "split 98 99")

    def test_refuses(self):
        for thing in NO_EVENTS + NO_DRAWINGS + NO_NUMBERS:
            if thing not in (("mirror",), ("turn", 0)):
                self.assertEqual(told_error(deed_text, thing), ("BadDeed",), thing)
        for start in NO_STARTS + tuple(start for start, _ in WRONG_STARTS):
            self.assertEqual(told_error(deed_text, ("beside", start)), ("BadDeed",))
        for text in NO_DEED_TEXTS:
            self.assertEqual(told_error(deed_of_text, text), ("BadText", 0), text[:40])
        for text in NO_START_TEXTS:
            self.assertEqual(told_error(deed_of_text, "beside " + text), ("BadText", 0), text[:40])
        for thing in NO_NUMBERS + (b"mirror", ["mirror"], ("mirror",)):
            if not isinstance(thing, str):
                self.assertEqual(told_error(deed_of_text, thing), ("BadText", 0), thing)


if __name__ == "__main__":
    unittest.main()
