import copy
import unittest

from ringcubes.braids import closed_braid
from ringcubes.dots import dotted, dots_bridge
from ringcubes.drawings import Drawing
from ringcubes.maps import composed, is_bridge, is_map, is_paper, paper_back, papers_joined, plain_map, summed
from ringcubes.papers import move_paper
from tests.samples import (HOPF, KINK, KINK_BACK, NO_DRAWINGS, NO_NUMBERS, NOTHING, RING, SMALL, TREFOIL,
                           fault_of_bridge, fault_of_map, fault_of_paper, is_ascending, plain_states, same_kinds,
                           sums_added, told_error)

BIG = closed_braid(2, [1] * 11)
TWO_RINGS = Drawing([], 2)
A, B, C, D = (1,), (2, ()), ("c",), ()
NO_TABLES = (None, True, 3, "ab", (), [], [(A, {B: 1})], {1: {B: 1}}, {"a": {B: 1}}, {None: {B: 1}}, {A: None},
             {A: 1}, {A: {}}, {A: [B]}, {A: [(B, 1)]}, {A: (B, 1)}, {A: {1: 1}}, {A: {"b": 1}}, {A: {B: 0}},
             {A: {B: True}}, {A: {B: False}}, {A: {B: 1.0}}, {A: {B: "1"}}, {A: {B: None}}, {A: {B: 1}, C: {}},
             {A: {B: 1, C: 0}}, {A: {B: 1}, 5: {B: 1}})
JOIN = {((), (1, 1)): {((), (1,)): 1}, ((), (-1, 1)): {((), (-1,)): 1}, ((), (1, -1)): {((), (-1,)): 1}}


def without_key(table, key):
    """A table without one of its keys."""
    return {other: table[other] for other in table if other != key}


def changed_tables(table, at=-1):
    """Tables that differ from a table in one thing each, most of them of the wrong kind."""
    state = list(table)[at]
    goal = list(table[state])[0]
    rest = without_key(table, state)
    choice, marks = state
    own = table[state]
    yield [(key, table[key]) for key in table]
    yield {**rest, state: {**own, goal: own[goal] + 1}}
    yield {**rest, state: {**own, goal: True}}
    yield {**rest, state: {**own, goal: 1.0}}
    yield {**rest, state: {**own, goal: 0}}
    yield {**rest, state: {}}
    yield {**rest, state: [goal]}
    yield {**rest, state: None}
    yield {**rest, (choice, marks, ()): own}
    yield {**rest, (choice,): own}
    yield {**rest, (choice, marks[:-1] + (True,)): own}
    yield {**rest, (choice, marks + (1,)): own}
    yield {**rest, (choice, marks[:-1]): own}
    yield {**rest, (choice, marks[:-1] + (0,)): own}
    yield {**rest, (choice[:-1] + (True,), marks): own}
    yield {**rest, (choice + (0,), marks): own}
    yield {**rest, state: {(goal[0][:-1] + (True,), goal[1]): own[goal]}}
    yield {**rest, state: {(goal[0], goal[1][:-1] + (True,)): own[goal]}}
    yield {**rest, state: {(goal[0], goal[1] + (1,)): own[goal]}}
    yield {**table, (): own}
    yield {**table, "state": own}
    yield {**table, (choice, (2,) * len(marks)): own}


class TableTest(unittest.TestCase):
    def test_plain_map(self):
        self.assertTrue(same_kinds(plain_map(RING), {((), (-1,)): {((), (-1,)): 1}, ((), (1,)): {((), (1,)): 1}}))
        self.assertEqual(plain_map(NOTHING), {((), ()): {((), ()): 1}})
        for drawing in SMALL:
            self.assertEqual(plain_map(drawing), {state: {state: 1} for state in plain_states(drawing)})
        plain_map(RING)[((), (1,))].clear()
        self.assertEqual(plain_map(drawing=RING)[((), (1,))], {((), (1,)): 1})

    def test_plain_map_refuses(self):
        for thing in NO_DRAWINGS:
            self.assertEqual(told_error(plain_map, thing), ("BadDrawing", None))
        self.assertEqual(told_error(plain_map, BIG), ("TooMany", 10))

    def test_composed(self):
        for first, second, told in (
                ({}, {}, {}), ({A: {B: 1}}, {}, {}), ({}, {A: {B: 1}}, {}),
                ({A: {B: 2}}, {B: {C: 3}}, {A: {C: 6}}), ({A: {B: 2}}, {A: {C: 3}}, {}),
                ({A: {B: 1, C: -1}}, {B: {D: 1}, C: {D: 1}}, {}),
                ({A: {B: 1, C: -1}}, {B: {D: 1}, C: {D: 1, A: 5}}, {A: {A: -5}}),
                ({A: {B: 2, D: 7}, C: {D: 1}}, {B: {A: 1, B: -1}}, {A: {A: 2, B: -2}}),
                ({A: {A: 1}, B: {A: 4}}, {A: {A: 10 ** 30}}, {A: {A: 10 ** 30}, B: {A: 4 * 10 ** 30}})):
            self.assertTrue(same_kinds(composed(first, second), told), composed(first, second))

    def test_summed(self):
        for first, second, times, told in (
                ({}, {}, 5, {}), ({A: {B: 1}}, {}, 2, {A: {B: 1}}), ({}, {A: {B: 2}}, 3, {A: {B: 6}}),
                ({A: {B: 2}}, {A: {B: 1}}, -2, {}), ({A: {B: 2, C: 1}}, {A: {B: 1}}, -2, {A: {C: 1}}),
                ({A: {B: 2}}, {A: {C: 1}, B: {D: 1}}, 1, {A: {B: 2, C: 1}, B: {D: 1}}),
                ({A: {B: 2}}, {A: {B: 2}, C: {C: 4}}, 0, {A: {B: 2}}),
                ({A: {B: 1}}, {A: {B: 1}, B: {B: 1}}, -1, {B: {B: -1}})):
            self.assertTrue(same_kinds(summed(first, second, times), told), summed(first, second, times))

    def test_forms(self):
        right = {A: {B: 1}}
        for thing in NO_TABLES:
            self.assertEqual(told_error(composed, thing, right), ("BadTable",), thing)
            self.assertEqual(told_error(composed, right, thing), ("BadTable",), thing)
            self.assertEqual(told_error(summed, thing, right, None), ("BadTable",), thing)
            self.assertEqual(told_error(summed, right, thing, None), ("BadTable",), thing)
        for thing in NO_NUMBERS:
            self.assertEqual(told_error(summed, right, right, thing), ("BadNumber", "times"), thing)
        self.assertEqual(composed(second=right, first={A: {A: 1}}), right)
        self.assertEqual(summed(times=2, second=right, first={}), {A: {B: 2}})

    def test_nothing_is_changed_and_all_is_new(self):
        first, second = {A: {B: 1}, B: {C: 2}}, {B: {A: 1}, C: {C: -1}, A: {B: -1}}
        kept = copy.deepcopy((first, second))
        for told in (composed(first, second), summed(first, second, 1), summed(first, {}, 1), summed({}, second, 1)):
            for row in told.values():
                row[("new",)] = 9
            told.clear()
        self.assertEqual((first, second), kept)


class MapTest(unittest.TestCase):
    def test_plain_maps_and_nothing(self):
        for drawing in SMALL:
            for more in (0, 2, -2, 10 ** 20):
                self.assertIs(is_map(drawing, drawing, more, plain_map(drawing)), more == 0)
                self.assertIs(is_map(drawing, drawing, more, {}), True)
                self.assertIs(is_map(drawing, RING, more, {}), True)

    def test_dots_are_maps(self):
        for drawing in SMALL:
            for arc in drawing.arcs:
                for more in (-2, 0, 2):
                    self.assertIs(is_map(drawing, drawing, more, dotted(drawing, arc)), more == -2)

    def test_between_unlike_drawings(self):
        self.assertIs(is_map(TWO_RINGS, RING, -1, JOIN), True)
        self.assertIs(is_map(TWO_RINGS, RING, 0, JOIN), False)
        self.assertIs(is_map(RING, TWO_RINGS, -1, JOIN), False)
        self.assertIs(is_map(TWO_RINGS, TWO_RINGS, -1, JOIN), False)
        self.assertIs(is_map(RING, RING, 0, {((), (1,)): {((), (1,)): 5}}), True)
        self.assertIs(is_map(RING, RING, 0, {((), (1,)): {((), (1,)): 5, ((), (-1,)): 1}}), False)
        self.assertIs(is_map(RING, RING, -2, {((), (1,)): {((), (-1,)): -7}}), True)
        self.assertIs(is_map(RING, RING, 0, {((), (1,)): {((), (-1,)): -7}}), False)

    def test_heights_must_stay(self):
        # In the drawing of two kinks the same marks come at choices of unlike heights.
        self.assertIs(is_map(KINK, KINK, -1, {((1,), (1,)): {((0,), (1, -1)): 1}}), False)
        self.assertIs(is_map(KINK, KINK, 0, {((1,), (1,)): {((0,), (1, 1)): 1}}), False)

    def test_what_does_not_go_along_with_steps(self):
        for drawing in (KINK, HOPF, TREFOIL, KINK_BACK):
            plain = plain_map(drawing)
            for state in plain:
                told = without_key(plain, state)
                self.assertIs(is_map(drawing, drawing, 0, told), fault_of_map(drawing, drawing, 0, told) is None)
                told = {**plain, state: {state: 2}}
                self.assertIs(is_map(drawing, drawing, 0, told), fault_of_map(drawing, drawing, 0, told) is None)
                told = {state: {state: 1}}
                self.assertIs(is_map(drawing, drawing, 0, told), fault_of_map(drawing, drawing, 0, told) is None)
        self.assertIs(is_map(KINK, KINK, 0, without_key(plain_map(KINK), ((1,), (1,)))), False)
        self.assertIs(is_map(KINK, KINK, 0, without_key(plain_map(KINK), ((0,), (1, 1)))), False)
        self.assertIs(is_map(KINK, KINK, 0, without_key(plain_map(KINK), ((0,), (-1, -1)))), True)

    def test_values_near_to_maps(self):
        for thing in changed_tables(plain_map(TREFOIL), 11):
            self.assertIs(is_map(TREFOIL, TREFOIL, 0, thing), False, thing)
        for thing in NO_TABLES + NO_DRAWINGS[:3] + (plain_map,):
            self.assertIs(is_map(TREFOIL, TREFOIL, 0, thing), thing == {}, thing)
        kink = plain_map(KINK)
        self.assertIs(is_map(KINK, KINK, 0, kink), True)
        listed = {state: list(kink[state]) for state in kink}
        self.assertIs(is_map(KINK, KINK, 0, listed), False)
        self.assertIs(is_map(KINK, KINK, 0, tuple(kink.items())), False)

    def test_composed_and_summed_maps(self):
        for drawing in (HOPF, TREFOIL, KINK_BACK):
            one, other = dotted(drawing, drawing.arcs[0]), dotted(drawing, drawing.arcs[1])
            self.assertIs(is_map(drawing, drawing, -4, composed(one, other)), True)
            self.assertIs(is_map(drawing, drawing, -2, summed(one, other, -3)), True)
            self.assertIsNone(fault_of_map(drawing, drawing, -2, summed(one, other, 5)))
        moved, _, paper = move_paper(TREFOIL, ("kinked", 0, 1, 0))
        told = composed(dotted(TREFOIL, 3), paper[0])
        self.assertIs(is_map(TREFOIL, moved, -2, told), True)
        self.assertIs(is_map(moved, TREFOIL, -2, told), False)

    def test_refuses(self):
        for thing in NO_DRAWINGS:
            self.assertEqual(told_error(is_map, thing, KINK, None, None), ("BadDrawing", None))
            self.assertEqual(told_error(is_map, KINK, thing, None, None), ("BadDrawing", None))
        for thing in NO_NUMBERS:
            self.assertEqual(told_error(is_map, BIG, BIG, thing, None), ("BadNumber", "more"), thing)
        self.assertEqual(told_error(is_map, BIG, KINK, 0, None), ("TooMany", 10))
        self.assertEqual(told_error(is_map, KINK, BIG, 0, None), ("TooMany", 10))
        self.assertIs(is_map(thing=plain_map(KINK), more=0, other=KINK, one=KINK), True)

    def test_nothing_is_changed(self):
        table = plain_map(HOPF)
        is_map(HOPF, HOPF, 0, table)
        self.assertEqual(table, plain_map(HOPF))


class BridgeTest(unittest.TestCase):
    def setUp(self):
        self.first = dotted(TREFOIL, 0)
        sign, self.thing = dots_bridge(TREFOIL, 0, 3)
        self.second = summed({}, dotted(TREFOIL, 3), sign)

    def test_right_ones(self):
        self.assertIs(is_bridge(TREFOIL, TREFOIL, -2, self.first, self.second, self.thing), True)
        self.assertIsNone(fault_of_bridge(TREFOIL, TREFOIL, -2, self.first, self.second, self.thing))
        for drawing in SMALL:
            plain = plain_map(drawing)
            self.assertIs(is_bridge(drawing, drawing, 0, plain, plain, {}), True)
            self.assertIs(is_bridge(drawing, drawing, 99, {}, {}, {}), True)
            self.assertIs(is_bridge(drawing, drawing, 0, plain, {}, {}), False)
            self.assertIs(is_bridge(drawing, drawing, 0, {}, plain, {}), False)

    def test_other_numbers(self):
        for more in (0, -1, 2, -4):
            self.assertIs(is_bridge(TREFOIL, TREFOIL, more, self.first, self.second, self.thing), False)
        for first, second in ((self.second, self.first), (self.first, {}), (self.first, self.first),
                              (summed(self.first, self.first, 1), self.second),
                              (self.first, summed({}, self.second, -1))):
            self.assertIs(is_bridge(TREFOIL, TREFOIL, -2, first, second, self.thing), False)
        double = summed(self.thing, self.thing, 1)
        self.assertIs(is_bridge(TREFOIL, TREFOIL, -2, self.first, self.second, double), False)
        self.assertIs(is_bridge(TREFOIL, TREFOIL, -2, summed(self.first, self.first, 1),
                                summed(self.second, self.second, 1), double), True)
        self.assertIs(is_bridge(TREFOIL, TREFOIL, -2, self.first, self.second, {}), False)

    def test_must_fall_by_one_height(self):
        plain = plain_map(KINK)
        self.assertIs(is_bridge(KINK, KINK, 0, plain, {}, plain), False)
        up = {((0,), (1, 1)): {((1,), (1,)): 1}}
        self.assertIs(is_bridge(KINK, KINK, 0, {}, {}, up), False)

    def test_both_ways_about_count(self):
        # A bridge from the step behind it alone: what it leads to is stepped on, and what the step leads to is led.
        down = {((1,), (1,)): {((0,), (1, 1)): 1}}
        told = {((1,), (1,)): {((1,), (1,)): 1}, ((0,), (1, 1)): {((0,), (1, 1)): 1}}
        self.assertIs(is_bridge(KINK, KINK, 0, told, {}, down), True)
        self.assertIs(is_bridge(KINK, KINK, 0, without_key(told, ((1,), (1,))), {}, down), False)
        self.assertIs(is_bridge(KINK, KINK, 0, without_key(told, ((0,), (1, 1))), {}, down), False)
        self.assertIs(is_bridge(KINK, KINK, 0, {}, summed({}, told, -1), down), True)

    def test_between_unlike_drawings(self):
        ring = {((1,), (1,)): {((), (1,)): 1}}
        made = {((0,), (1, 1)): {((), (1,)): 1}}
        self.assertIs(is_bridge(KINK, RING, -2, made, {}, ring), True)
        self.assertIs(is_bridge(RING, KINK, -2, made, {}, ring), False)
        self.assertIs(is_bridge(KINK, RING, -1, made, {}, ring), False)

    def test_no_other_keys(self):
        strange = {("no state",): {("at all",): 3}}
        first = {**self.first, **strange}
        second = {**self.second, **strange}
        self.assertIs(is_bridge(TREFOIL, TREFOIL, -2, first, self.second, self.thing), False)
        self.assertIs(is_bridge(TREFOIL, TREFOIL, -2, self.first, second, self.thing), False)
        self.assertIs(is_bridge(TREFOIL, TREFOIL, -2, first, second, self.thing), True)
        self.assertIs(is_bridge(RING, RING, 0, strange, {}, {}), False)
        self.assertIs(is_bridge(RING, RING, 0, {((), (1,)): {("no",): 1}}, {}, {}), False)

    def test_thing_alone_is_judged_by_kinds(self):
        odd = {((), (True,)): {((), (True,)): 1}}
        even = {((), (1,)): {((), (1,)): 1}}
        self.assertIs(is_bridge(RING, RING, 0, odd, even, {}), True)
        down = {((1,), (1,)): {((0,), (1, 1)): 1}}
        made = {((True,), (1,)): {((1,), (True,)): 1}, ((0,), (1, 1)): {((False,), (1, 1)): 1}}
        self.assertIs(is_bridge(KINK, KINK, 0, made, {}, down), True)
        down = {((True,), (1,)): {((0,), (1, 1)): 1}}
        self.assertIs(is_bridge(KINK, KINK, 0, made, {}, down), False)
        down = {((1,), (1,)): {((0,), (1, True)): 1}}
        self.assertIs(is_bridge(KINK, KINK, 0, made, {}, down), False)

    def test_values_near_to_bridges(self):
        for thing in changed_tables(self.thing):
            self.assertIs(is_bridge(TREFOIL, TREFOIL, -2, self.first, self.second, thing), False, thing)
        for thing in NO_TABLES + NO_DRAWINGS[:3]:
            self.assertIs(is_bridge(TREFOIL, TREFOIL, -2, self.first, self.second, thing), False, thing)

    def test_refuses(self):
        right = {A: {B: 1}}
        for thing in NO_DRAWINGS:
            self.assertEqual(told_error(is_bridge, thing, KINK, None, None, None, None), ("BadDrawing", None))
            self.assertEqual(told_error(is_bridge, KINK, thing, None, None, None, None), ("BadDrawing", None))
        for thing in NO_NUMBERS:
            self.assertEqual(told_error(is_bridge, BIG, BIG, thing, None, None, None), ("BadNumber", "more"), thing)
        for thing in NO_TABLES:
            self.assertEqual(told_error(is_bridge, BIG, BIG, 0, thing, right, None), ("BadTable",), thing)
            self.assertEqual(told_error(is_bridge, BIG, BIG, 0, right, thing, None), ("BadTable",), thing)
        self.assertEqual(told_error(is_bridge, BIG, KINK, 0, right, right, None), ("TooMany", 10))
        self.assertEqual(told_error(is_bridge, KINK, BIG, 0, right, right, None), ("TooMany", 10))
        self.assertIs(is_bridge(thing={}, second={}, first={}, more=1, other=KINK, one=KINK), True)

    def test_nothing_is_changed(self):
        kept = copy.deepcopy((self.first, self.second, self.thing))
        is_bridge(TREFOIL, TREFOIL, -2, self.first, self.second, self.thing)
        self.assertEqual((self.first, self.second, self.thing), kept)


class PaperTest(unittest.TestCase):
    def setUp(self):
        self.moved, _, self.paper = move_paper(KINK, ("kinked", 0, 1, 0))

    def test_right_ones(self):
        for drawing in SMALL:
            plain = plain_map(drawing)
            self.assertIs(is_paper(drawing, drawing, (plain, plain, {}, {})), True)
            minus = summed({}, plain, -1)
            self.assertIs(is_paper(drawing, drawing, (minus, minus, {}, {})), True)
            self.assertIs(is_paper(drawing, drawing, (minus, plain, {}, {})), False)
            self.assertIs(is_paper(drawing, drawing, ({}, {}, {}, {})), False)
        self.assertIs(is_paper(KINK, self.moved, self.paper), True)
        self.assertIs(is_paper(self.moved, KINK, paper_back(self.paper)), True)
        self.assertIs(is_paper(self.moved, KINK, self.paper), False)
        self.assertIs(is_paper(KINK, KINK, self.paper), False)

    def test_there_and_back_must_be_maps(self):
        # Two tables that undo one another, but do not go along with the steps.
        plain = plain_map(KINK)
        odd = {**plain, ((1,), (1,)): {((1,), (1,)): -1}}
        self.assertIs(is_paper(KINK, KINK, (odd, odd, {}, {})), False)
        turned = {((), (1,)): {((), (-1,)): 1}, ((), (-1,)): {((), (1,)): 1}}
        self.assertIs(is_paper(RING, RING, (turned, turned, {}, {})), False)

    def test_one_thing_changed(self):
        there, back, ahead, behind = self.paper
        self.assertTrue(there and back and behind)
        for thing in changed_tables(there):
            self.assertIs(is_paper(KINK, self.moved, (thing, back, ahead, behind)), False, thing)
        for thing in changed_tables(back):
            self.assertIs(is_paper(KINK, self.moved, (there, thing, ahead, behind)), False, thing)
        for thing in changed_tables(behind):
            self.assertIs(is_paper(KINK, self.moved, (there, back, ahead, thing)), False, thing)
        self.assertIs(is_paper(KINK, self.moved, (there, back, ahead, {})), False)
        self.assertIs(is_paper(KINK, self.moved, (there, back, behind, ahead)), False)
        self.assertIs(is_paper(KINK, self.moved, (there, back, plain_map(KINK), behind)), False)
        self.assertIs(is_paper(KINK, self.moved, (there, back, ahead)), False)
        self.assertIs(is_paper(KINK, self.moved, (there, back, ahead, behind, {})), False)
        self.assertIs(is_paper(KINK, self.moved, [there, back, ahead, behind]), False)
        for thing in NO_TABLES:
            self.assertIs(is_paper(KINK, self.moved, thing), False)

    def test_ahead_counts_too(self):
        there, back, ahead, behind = paper_back(self.paper)
        self.assertTrue(ahead)
        for thing in changed_tables(ahead):
            self.assertIs(is_paper(self.moved, KINK, (there, back, thing, behind)), False, thing)
        self.assertIs(is_paper(self.moved, KINK, (there, back, {}, behind)), False)

    def test_refuses(self):
        for thing in NO_DRAWINGS:
            self.assertEqual(told_error(is_paper, thing, KINK, None), ("BadDrawing", None))
            self.assertEqual(told_error(is_paper, KINK, thing, None), ("BadDrawing", None))
        self.assertEqual(told_error(is_paper, BIG, KINK, None), ("TooMany", 10))
        self.assertEqual(told_error(is_paper, KINK, BIG, None), ("TooMany", 10))
        self.assertIs(is_paper(thing=self.paper, other=self.moved, one=KINK), True)

    def test_paper_back(self):
        one, two, three, four = {A: {B: 1}}, {B: {A: 1}}, {}, {C: {C: 5}}
        self.assertTrue(same_kinds(paper_back((one, two, three, four)), (two, one, four, three)))
        self.assertEqual(paper_back(paper=paper_back(self.paper)), self.paper)

    def test_papers_joined_by_hand(self):
        one = ({A: {B: 2}}, {B: {A: 3}}, {A: {A: 5}}, {B: {B: 7}})
        other = ({B: {C: 11}}, {C: {B: 13}}, {B: {B: 17}}, {C: {C: 19}})
        told = ({A: {C: 22}}, {C: {A: 39}}, {A: {A: 5 + 2 * 17 * 3}}, {C: {C: 19 + 13 * 7 * 11}})
        self.assertTrue(same_kinds(papers_joined(one, other), told), papers_joined(one, other))
        self.assertEqual(papers_joined(other=other, one=one), told)

    def test_papers_joined_are_papers(self):
        for first, second in ((("kinked", 0, 1, 0), ("unkinked", 0)), (("laid_over", (0, 0), (1, 1)), ("kinked", 1, -1, 1))):
            middle, _, one = move_paper(KINK, first)
            last, _, other = move_paper(middle, second)
            told = papers_joined(one, other)
            self.assertIs(is_paper(KINK, last, told), True)
            self.assertIsNone(fault_of_paper(KINK, last, told))
            self.assertIs(is_paper(last, KINK, paper_back(told)), True)

    def test_forms(self):
        right = ({A: {B: 1}}, {}, {}, {})
        wrong = [None, 3, "abcd", (), ({}, {}, {}), ({}, {}, {}, {}, {}), [{}, {}, {}, {}], {}]
        wrong += [({}, {}, {}, thing) for thing in NO_TABLES] + [(thing, {}, {}, {}) for thing in NO_TABLES]
        wrong += [({}, thing, {}, {}) for thing in NO_TABLES] + [({}, {}, thing, {}) for thing in NO_TABLES]
        for thing in wrong:
            self.assertEqual(told_error(paper_back, thing), ("BadTable",), thing)
            self.assertEqual(told_error(papers_joined, thing, right), ("BadTable",), thing)
            self.assertEqual(told_error(papers_joined, right, thing), ("BadTable",), thing)

    def test_nothing_is_changed_and_all_is_new(self):
        kept = copy.deepcopy(self.paper)
        plain = (plain_map(KINK), plain_map(KINK), {}, {})
        for told in (paper_back(self.paper), papers_joined(plain, self.paper), paper_back((plain[0],) * 4)):
            for table in told:
                for row in table.values():
                    row[("new",)] = 1
                table[("new",)] = {}
        self.assertEqual(self.paper, kept)
        self.assertEqual(plain, (plain_map(KINK), plain_map(KINK), {}, {}))


if __name__ == "__main__":
    unittest.main()
