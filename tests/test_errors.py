import unittest

from ringcubes import errors
from ringcubes.errors import RingError
from tests.samples import NO_DRAWINGS, TREFOIL

WITH = {"BadChain": "part", "BadDrawing": "part", "BadFilm": "at", "BadNumber": "part", "BadPatch": "part",
        "BadText": "at", "NoMark": "name", "NoWatch": "name", "TooMany": "most"}
PLAIN = ("BadArc BadArrows BadBraid BadChoice BadCrossing BadDeed BadEvent BadForm BadLive BadMatching BadMove "
         "BadName BadOrder BadPlace BadPrime BadRule BadStart BadState BadSurface BadTable BadTree BadWay BadWeb "
         "NotHere NotOne NothingLeft").split()
ALL = sorted(PLAIN + list(WITH))


class ErrorTest(unittest.TestCase):
    def test_there_are_these_and_no_others(self):
        found = [name for name, thing in vars(errors).items() if isinstance(thing, type)]
        self.assertEqual(sorted(found), sorted(ALL + ["RingError"]))
        self.assertEqual(len(ALL), 35)

    def test_each_is_directly_below_ring_error(self):
        self.assertEqual(RingError.__bases__, (ValueError,))
        for name in ALL:
            self.assertEqual(getattr(errors, name).__bases__, (RingError,), name)
            self.assertEqual(getattr(errors, name).__name__, name)
            self.assertEqual(getattr(errors, name).__module__, "ringcubes.errors")

    def test_each_is_of_its_own_class_alone(self):
        for name in ALL:
            error = getattr(errors, name)("word")
            self.assertIsInstance(error, ValueError)
            self.assertIsInstance(error, RingError)
            for other in ALL:
                self.assertEqual(isinstance(error, getattr(errors, other)), name == other)

    def test_attributes_hold_any_value(self):
        for name, attribute in WITH.items():
            make = getattr(errors, name)
            for value in NO_DRAWINGS + (TREFOIL, 7, -1, "crossings", (1, [2]), {"a": 1}, 1.5, errors.NotHere):
                self.assertIs(getattr(make(value), attribute), value)
                self.assertIs(getattr(make(**{attribute: value}), attribute), value)
            self.assertRaises(TypeError, make)

    def test_others_are_made_of_a_message(self):
        for name in PLAIN + ["RingError"]:
            error = getattr(errors, name)("some words")
            self.assertEqual(str(error), "some words")
            self.assertEqual(vars(error), {})

    def test_they_can_be_caught_by_name(self):
        for name in ALL:
            make = getattr(errors, name)
            with self.assertRaises(make):
                raise make("word")
            with self.assertRaises(RingError):
                raise make("word")


if __name__ == "__main__":
    unittest.main()
