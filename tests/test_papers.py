import copy
import unittest

from ringcubes.braids import closed_braid
from ringcubes.drawings import Drawing
from ringcubes.faces import faces
from ringcubes.maps import is_paper, paper_back, papers_joined
from ringcubes.papers import move_paper, row_paper
from ringcubes.rooms import rooms, whole_rooms
from ringcubes.views import alike
from tests.samples import (HOPF, KINK, KINK_BACK, LOOSE, NO_DRAWINGS, NOTHING, RING, RINGS, SMALL, TREFOIL,
                           fault_of_paper, same_kinds, told_error)
from tests.walks import moved, moves_let, walk

ELEVEN = closed_braid(2, [1] * 11)
TEN = closed_braid(2, [1] * 10)
NO_MOVES = (None, True, 3, "", "kinked", (), [], ("kinked",), ["kinked", 0, 1, 0], ("kinked", 0, 1), ("kinked", 0, 1, 0, 0),
            ("ring_kinked",), ("ring_kinked", 1, 1), ("unkinked",), ("unkinked", 0, 0), ("laid_over", (0, 0)),
            ("laid_over", (0, 0), (1, 0), 0), ("pulled_off", 0), ("pulled_off", 0, 1, 2), ("slid",), ("slid", 0, 0),
            ("moved", 0), ("Kinked", 0, 1, 0), ("", 0), (None, 0), (0, 0), (True, 0), (["slid"], 0), ({}, 0), (("slid",), 0),
            {"slid": 0}, ("birth", 0), ("mirrored",))
TRIANGLES = tuple(closed_braid(3, word) for word in (
    [1, 2, 1], [-1, -2, -1], [1, 2, -1], [-1, 2, 1], [1, -2, -1], [-1, -2, 1], [2, 1, 2], [-2, 1, 2], [2, 1, -2], [2, -1, -2],
    [-2, -1, 2], [1, 2, 1, 1], [1, 2, 1, -2], [-2, 1, 2, 1], [1, 1, 2, 1, -2]))


def touched(drawing, move):
    """The crossings that a move touches, and how many come."""
    if move[0] == "unkinked":
        return {move[1]}, 0
    if move[0] == "pulled_off":
        return {move[1], move[2]}, 0
    if move[0] == "slid":
        return {index for index, _ in faces(drawing)[move[1]]}, 0
    return set(), 0


def unlike_at(table, kept, here, there):
    """Whether a table leads some state to one of another choice at a kept crossing."""
    return any(state[0][pair[here]] != goal[0][pair[there]]
               for state in table for goal in table[state] for pair in kept)


class MoveTest(unittest.TestCase):
    def check(self, drawing, move, goal):
        """Whether what move_paper tells of a move is right; the paper is told."""
        told = move_paper(drawing, move)
        self.assertIsInstance(told, tuple)
        made, kept, paper = told
        self.assertEqual(made, goal)
        self.check_kept(drawing, move, made, kept)
        self.assertIs(is_paper(drawing, made, paper), True, (drawing.crossings, move))
        there, back, ahead, behind = paper
        for table, here, far in ((there, 0, 1), (back, 1, 0), (ahead, 0, 0), (behind, 1, 1)):
            self.assertFalse(unlike_at(table, kept, here, far), (drawing.crossings, move))
        return paper

    def check_kept(self, drawing, move, made, kept):
        gone, _ = touched(drawing, move)
        stay = [index for index in range(len(drawing.crossings)) if index not in gone]
        self.assertEqual([index for index, _ in kept], stay)
        places = [place for _, place in kept]
        self.assertEqual(len(set(places)), len(places))
        self.assertTrue(same_kinds(kept, tuple(sorted(kept))))
        for index, place in kept:
            self.assertEqual(made.crossings[place][0], drawing.crossings[index][0])

    def test_all_moves_of_small_drawings(self):
        words = {}
        for drawing in (NOTHING, RING, RINGS, KINK, KINK_BACK, HOPF, LOOSE, closed_braid(3, [1, 2]),
                        closed_braid(3, [-1, 1, 2])):
            for move, goal in moves_let(drawing):
                self.check(drawing, move, goal)
                words[move[0]] = words.get(move[0], 0) + 1
        self.assertEqual(len(words), 6)

    def test_third_moves_at_faces_of_all_kinds(self):
        bits = set()
        for drawing in TRIANGLES:
            for move, goal in moves_let(drawing):
                if move[0] == "slid":
                    self.check(drawing, move, goal)
                    bits.add(tuple(drawing.crossings[index][0] for index, _ in faces(drawing)[move[1]]))
        self.assertGreaterEqual(len(bits), 6)

    def test_by_the_words_of_the_document(self):
        for drawing in (RING, KINK, KINK_BACK, LOOSE, closed_braid(3, [1, 2, 1]), closed_braid(3, [-1, 2, 1])):
            seen = {}
            for move, goal in moves_let(drawing):
                seen[move[0]] = seen.get(move[0], 0) + 1
                if seen[move[0]] <= 8:
                    self.assertIsNone(fault_of_paper(drawing, goal, move_paper(drawing, move)[2]), move)

    def test_rows_of_moves(self):
        words = set()
        for seed in range(20):
            drawing = closed_braid(3, [[1, 2, -1], [1, -2], [2, 1, 2, -1]][seed % 3])
            for move, goal in walk(drawing, 6, 7, seed):
                self.check(drawing, move, goal)
                words.add(move[0])
                drawing = goal
        self.assertEqual(len(words), 6)

    def test_at_ten_crossings(self):
        drawing = closed_braid(3, [1, 2, 1, 1, -2, 1, -2, 1, -1, -2])
        seen = set()
        for move, goal in moves_let(drawing):
            if move[0] in ("slid", "pulled_off", "unkinked") and move[0] not in seen:
                self.check(drawing, move, goal)
                seen.add(move[0])
        self.assertEqual(seen, {"slid", "pulled_off"})
        nine = closed_braid(3, [1, 2, 1, 1, -2, 1, -2, 1, 2])
        self.check(nine, ("kinked", 3, -1, 1), moved(nine, ("kinked", 3, -1, 1)))

    def test_several_ways_and_rings_beside(self):
        drawing = Drawing(closed_braid(4, [1, -1, 3, 3]).crossings, 2)
        seen = {}
        for move, goal in moves_let(drawing):
            if seen.setdefault(move[0], 0) < 4:
                seen[move[0]] += 1
                self.check(drawing, move, goal)
        self.assertGreaterEqual(len(seen), 4)

    def test_what_is_no_move(self):
        for drawing in (TREFOIL, ELEVEN):
            for thing in NO_MOVES:
                self.assertEqual(told_error(move_paper, drawing, thing), ("BadMove",), thing)
                self.assertEqual(told_error(row_paper, drawing, [thing]), ("BadMove",), thing)
        for thing in NO_DRAWINGS:
            self.assertEqual(told_error(move_paper, thing, None), ("BadDrawing", None))
            self.assertEqual(told_error(row_paper, thing, None), ("BadDrawing", None))

    def test_what_the_function_raises(self):
        full = Drawing(KINK.crossings, 8)
        twenty = closed_braid(3, [1, -2] * 10)
        for drawing, move, told in (
                (TREFOIL, ("kinked", 99, 1, 0), ("BadArc",)), (TREFOIL, ("kinked", None, 1, 0), ("BadArc",)),
                (TREFOIL, ("kinked", 0, None, 0), ("BadNumber", "sign")),
                (ELEVEN, ("kinked", 0, 1, 2), ("BadNumber", "over")),
                (TREFOIL, ("ring_kinked", 1), ("NotHere",)), (TREFOIL, ("ring_kinked", "1"), ("BadNumber", "sign")),
                (ELEVEN, ("unkinked", 11), ("BadCrossing",)), (ELEVEN, ("unkinked", 0), ("NotHere",)),
                (full, ("unkinked", 0), ("TooMany", 8)), (TREFOIL, ("laid_over", 0, (0, 0)), ("BadArc",)),
                (ELEVEN, ("laid_over", (0, 0), (0, 1)), ("NotHere",)), (twenty, ("kinked", 0, 1, 0), ("TooMany", 20)),
                (TREFOIL, ("pulled_off", 0, 0), ("BadCrossing",)), (TREFOIL, ("pulled_off", 0, 1), ("NotHere",)),
                (TREFOIL, ("slid", 5), ("BadNumber", "face")), (ELEVEN, ("slid", 0), ("NotHere",)),
                (ELEVEN, ("kinked", 0, 1, 0), ("TooMany", 10)), (TEN, ("kinked", 0, 1, 0), ("TooMany", 10)),
                (Drawing(TEN.crossings, 1), ("ring_kinked", 1), ("TooMany", 10))):
            self.assertEqual(told_error(move_paper, drawing, move), told, move)
            self.assertEqual(told_error(row_paper, drawing, [move]), told, move)
        eleven = closed_braid(2, [1] * 10 + [-1])
        self.assertEqual(told_error(move_paper, eleven, ("pulled_off", 9, 10)), ("TooMany", 10))
        nine = closed_braid(3, [1, -2] * 4 + [1])
        laid = [move for move, _ in moves_let(nine) if move[0] == "laid_over"][0]
        self.assertEqual(told_error(move_paper, nine, laid), ("TooMany", 10))

    def test_names_and_new_dicts(self):
        kept = copy.deepcopy(move_paper(KINK, ("kinked", 0, 1, 0)))
        told = move_paper(move=("kinked", 0, 1, 0), drawing=KINK)
        for table in told[2]:
            for row in table.values():
                row[("new",)] = 1
            table.clear()
        self.assertEqual(move_paper(KINK, ("kinked", 0, 1, 0)), kept)

    def test_rooms_stay(self):
        for drawing in SMALL[3:8]:
            whole = whole_rooms(drawing)
            for at, (_, goal) in enumerate(moves_let(drawing)):
                if at % 5 == 0:
                    self.assertEqual(whole_rooms(goal), whole)


class RowTest(unittest.TestCase):
    def test_no_moves(self):
        for drawing in (NOTHING, RING, TREFOIL):
            told = row_paper(drawing, [])
            self.assertIsInstance(told, tuple)
            self.assertEqual(told[0], drawing)
            self.assertIs(is_paper(drawing, drawing, told[1]), True)
            self.assertEqual(row_paper(drawing, ())[0], drawing)

    def test_rows(self):
        for many in (1, 2, 5, 8):
            for seed in range(5):
                drawing = closed_braid(3, [1, 2, -1])
                row = walk(drawing, many, 6, 100 * many + seed)
                goal, paper = row_paper(drawing, [move for move, _ in row])
                self.assertEqual(goal, row[-1][1])
                self.assertIs(is_paper(drawing, goal, paper), True)
                self.assertIs(is_paper(goal, drawing, paper_back(paper)), True)
                for prime in (2, 3):
                    self.assertEqual(rooms(prime, goal), rooms(prime, drawing))
                self.assertEqual(whole_rooms(goal), whole_rooms(drawing))

    def test_by_the_words_of_the_document(self):
        drawing = closed_braid(3, [1, 2, -1])
        row = walk(drawing, 4, 5, 7)
        goal, paper = row_paper(drawing, tuple(move for move, _ in row))
        self.assertIsNone(fault_of_paper(drawing, goal, paper))

    def test_papers_joined_are_the_same_by_parts(self):
        drawing = closed_braid(3, [1, 2, 1])
        row = [move for move, _ in walk(drawing, 4, 6, 11)]
        middle, one = row_paper(drawing, row[:2])
        goal, other = row_paper(middle, row[2:])
        told = papers_joined(one, other)
        self.assertIs(is_paper(drawing, goal, told), True)
        self.assertTrue(alike(goal, row_paper(drawing, row)[0]))

    def test_12_moves_and_13(self):
        row = [("kinked", 0, 1, 0), ("unkinked", 1)] * 7
        goal, paper = row_paper(KINK, row[:12])
        self.assertEqual(goal, KINK)
        self.assertIs(is_paper(KINK, goal, paper), True)
        self.assertEqual(told_error(row_paper, KINK, row[:13]), ("BadMove",))
        self.assertEqual(told_error(row_paper, KINK, row), ("BadMove",))
        self.assertEqual(told_error(row_paper, KINK, [None] * 13), ("BadMove",))

    def test_refuses(self):
        for thing in (None, True, 3, "slid", {}, {("slid", 0): 1}, {("slid", 0)}, 1.0, "", b""):
            self.assertEqual(told_error(row_paper, KINK, thing), ("BadMove",), thing)
        kink = ("kinked", 0, 1, 0)
        for row, told in (([kink, None], ("BadMove",)), ([kink, ("slid", 99)], ("BadNumber", "face")),
                          ([("slid", 99), None], ("BadNumber", "face")), ([kink, ("unkinked", 2)], ("BadCrossing",)),
                          ([None, ("slid", 99)], ("BadMove",)), ([("ring_kinked", 1), None], ("NotHere",))):
            self.assertEqual(told_error(row_paper, KINK, row), told, row)
        nine = closed_braid(2, [1] * 9)
        self.assertEqual(told_error(row_paper, nine, [kink]), None)
        self.assertEqual(told_error(row_paper, nine, [kink, kink]), ("TooMany", 10))
        self.assertEqual(told_error(row_paper, nine, [kink, kink, ("unkinked", 10)]), ("TooMany", 10))
        self.assertEqual(told_error(row_paper, nine, [kink, kink, None]), ("BadMove",))
        self.assertEqual(told_error(row_paper, nine, [kink, kink, ("unkinked", 0)]), ("NotHere",))
        self.assertEqual(told_error(row_paper, ELEVEN, []), ("TooMany", 10))
        self.assertEqual(told_error(row_paper, closed_braid(2, [1] * 20), [kink]), ("TooMany", 20))

    def test_nothing_is_changed(self):
        row = [["kinked", 0, 1, 0]]
        self.assertEqual(told_error(row_paper, KINK, row), ("BadMove",))
        self.assertEqual(row, [["kinked", 0, 1, 0]])
        row = [("kinked", 0, 1, 0), ("unkinked", 1)]
        self.assertEqual(row_paper(row=row, drawing=KINK)[0], KINK)
        self.assertEqual(len(row), 2)


if __name__ == "__main__":
    unittest.main()
