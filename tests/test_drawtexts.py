import unittest

from ringcubes.braids import closed_braid
from ringcubes.drawings import Drawing
from ringcubes.drawtexts import drawing_of_text, drawing_text
from ringcubes.views import renamed
from tests.samples import (HOPF, KINK, KINK_BACK, NO_DRAWINGS, NO_NUMBERS, NOTHING, RINGS, SAMPLES, TREFOIL, same_kinds,
                           told_error)

HOPF_TEXT = "drawing 0\ncrossing 1 1 2 0 3\ncrossing 1 3 0 2 1"
# Numbers written otherwise, and other things where a number stands; {} is the number.
SPOILED = ("0{}", "+{}", "{} ", " {}", "{}.0", "{}e0", "", "x", "-{}", "{}\t", "\t{}", "{}_", "'{}'", "None", "True", "{}\r",
           "{}" + chr(0x660), chr(0x661), chr(0xff11), chr(178), "100", "-1", "999", "1" * 5000)


class DrawingTextTest(unittest.TestCase):
    def test_by_hand(self):
        self.assertEqual(drawing_text(HOPF), HOPF_TEXT)
        self.assertEqual(drawing_text(NOTHING), "drawing 0")
        self.assertEqual(drawing_text(RINGS), "drawing 3")
        self.assertEqual(drawing_text(KINK_BACK), "drawing 1\ncrossing -1 0 1 1 0")
        self.assertEqual(drawing_text(drawing=KINK), "drawing 0\ncrossing 1 0 1 1 0")

    def test_there_and_back(self):
        wide = renamed(TREFOIL, {arc: 99 - 9 * arc for arc in TREFOIL.arcs})
        for drawing in SAMPLES + (Drawing([], 8), closed_braid(3, [1, -2] * 10), wide, closed_braid(8, [1, 3, -5, 7])):
            text = drawing_text(drawing)
            self.assertIs(type(text), str)
            told = drawing_of_text(text)
            self.assertIsInstance(told, Drawing)
            self.assertTrue(same_kinds((told.crossings, told.rings), (drawing.crossings, drawing.rings)))
            self.assertEqual(drawing_text(told), text)

    def test_refuses(self):
        for thing in NO_DRAWINGS:
            self.assertEqual(told_error(drawing_text, thing), ("BadDrawing", None))
        for thing in NO_DRAWINGS + NO_NUMBERS + (HOPF, HOPF_TEXT.encode(), [HOPF_TEXT]):
            if not isinstance(thing, str):
                self.assertEqual(told_error(drawing_of_text, thing), ("BadText", 0), thing)
        self.assertEqual(drawing_of_text(text="drawing 0"), NOTHING)


class SpoiledTest(unittest.TestCase):
    def test_each_number_of_each_line(self):
        lines = HOPF_TEXT.split("\n")
        for at, line in enumerate(lines):
            words = line.split(" ")
            for place in range(1, len(words)):
                for form in SPOILED:
                    wrong = words[:place] + [form.format(words[place])] + words[place + 1:]
                    if wrong[place] in ("-1",) and place == 1 and at > 0:
                        continue
                    if wrong[place] == "0" + words[place] and words[place] == "":
                        continue
                    text = "\n".join(lines[:at] + [" ".join(wrong)] + lines[at + 1:])
                    self.assertEqual(told_error(drawing_of_text, text), ("BadText", at), text[:90])

    def test_each_line(self):
        lines = HOPF_TEXT.split("\n")
        for at, line in enumerate(lines):
            for wrong in ("", " ", " " + line, line + " ", line.replace(" ", "  "), line.upper(), line + " 0", line[:-2],
                          line.split(" ")[0], line.replace(" ", "\t"), line + "\r", line + "\x0b", line.replace(" ", chr(160)),
                          line.replace(" ", ", "), "crossings 1 1 2 0 3", "live", "drawing", "crossing", "# " + line):
                text = "\n".join(lines[:at] + [wrong] + lines[at + 1:])
                self.assertEqual(told_error(drawing_of_text, text), ("BadText", at), text)

    def test_numbers_out_of_bounds(self):
        for text, at in (("drawing 9", 0), ("drawing -1", 0), ("drawing 10", 0), ("drawing 0\ncrossing 0 0 1 1 0", 1),
                         ("drawing 0\ncrossing 2 0 1 1 0", 1), ("drawing 0\ncrossing 1 0 100 100 0", 1),
                         ("drawing 0\ncrossing 1 -1 1 1 -1", 1), ("drawing 0\ncrossing -2 0 1 1 0", 1),
                         ("drawing 9\ncrossing 0 0 1 1 0", 0), ("drawing -0", 0), ("drawing 00", 0)):
            self.assertEqual(told_error(drawing_of_text, text), ("BadText", at), text)

    def test_the_first_wrong_line_is_told(self):
        self.assertEqual(told_error(drawing_of_text, "drawing 0\nx\ny"), ("BadText", 1))
        self.assertEqual(told_error(drawing_of_text, "x\ny"), ("BadText", 0))
        self.assertEqual(told_error(drawing_of_text, HOPF_TEXT + "\n"), ("BadText", 3))
        self.assertEqual(told_error(drawing_of_text, "\n" + HOPF_TEXT), ("BadText", 0))
        self.assertEqual(told_error(drawing_of_text, ""), ("BadText", 0))
        self.assertEqual(told_error(drawing_of_text, "\n"), ("BadText", 0))
        self.assertEqual(told_error(drawing_of_text, "drawing 0\n\n" + "crossing 1 0 1 1 0"), ("BadText", 1))
        self.assertEqual(told_error(drawing_of_text, "crossing 1 0 1 1 0\ndrawing 0"), ("BadText", 0))
        self.assertEqual(told_error(drawing_of_text, "drawing 0\ndrawing 0"), ("BadText", 1))

    def test_what_drawing_refuses(self):
        for text in ("drawing 0\ncrossing 1 0 1 2 3", "drawing 0\ncrossing 1 0 0 0 0", "drawing 8\ncrossing 1 5 6 6 7"):
            self.assertEqual(told_error(drawing_of_text, text), ("BadText", 2))
        plane = "drawing 0\ncrossing 1 0 1 2 3\ncrossing 1 1 0 3 2"
        self.assertEqual(told_error(drawing_of_text, plane), ("BadText", 3))
        many = "drawing 0" + "".join("\ncrossing 1 {0} {1} {1} {0}".format(2 * k, 2 * k + 1) for k in range(20))
        self.assertEqual(len(drawing_of_text(many).crossings), 20)
        self.assertEqual(told_error(drawing_of_text, many + "\ncrossing 1 90 91 91 90"), ("BadText", 22))
        self.assertEqual(told_error(drawing_of_text, many + "\ncrossing 1 90 91 91 900"), ("BadText", 21))


if __name__ == "__main__":
    unittest.main()
