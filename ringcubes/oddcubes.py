"""The cube of a drawing with the odd step: rings as letters of which two neighbours exchanged give minus."""

from ringcubes.drawings import need_drawing
from ringcubes.ends import (PLACES_JOINED, UNDER_IN, UNDER_OUT, into_spots, other_end, out_spots, place_of,
                            slots_of)
from ringcubes.errors import BadArrows
from ringcubes.kinds import is_between, is_row
from ringcubes.rings import raised
from ringcubes.steps import Cube


def arrow_bits(drawing, arrows):
    """The arrows, 0 for each crossing if they are None; BadArrows unless they are such."""
    need_drawing(drawing)
    many = len(drawing.crossings)
    if arrows is None:
        return (0,) * many
    if not is_row(arrows, many) or not all([is_between(bit, 0, 1) for bit in arrows]):
        raise BadArrows("no tuple of a 0 or 1 for each crossing")
    return arrows


def exchanges(row):
    """How many pairs of a row stand the greater one first."""
    return len([at for at, one in enumerate(row) for other in row[at + 1:] if one > other])


def put_in_order(row, number):
    """A row of rings, ascending, and its number; None if an index comes twice."""
    if len({index for index in row}) != len(row):
        return None
    return tuple(sorted(row)), number * (1 - 2 * (exchanges(row) % 2))


def marks_of(row, many):
    """The marks of so many rings, -1 at those of the row."""
    return tuple([-1 if index in row else 1 for index in range(many)])


def row_of(marks):
    """The ascending row of the rings with the mark -1."""
    return tuple([index for index, mark in enumerate(marks) if mark == -1])


def names_led(word, rings, many):
    """For so many rings ahead of an edge the index behind of each; for one that is split that of either."""
    one, other, third = rings
    if word == "join":
        gone, come = (one, other), (third,)
    else:
        gone, come = (one,), (other, third)
    kept = [index for index in range(many) if index not in gone]
    goals = [index for index in range(many + 1) if index not in come]
    names = {index: goal for index, goal in zip(kept, goals)}
    for index in gone:
        names[index] = come[0]
    return names


class OddEdge:
    """What an edge makes of rows of rings; news are the pairs (ring put first, number) of a split."""

    def __init__(self, names, news):
        self.names = names
        self.news = news

    def rows_led(self, row):
        """The list of pairs (row, number) to which a row is led."""
        named = tuple([self.names[index] for index in row])
        if self.news:
            told = [put_in_order((ring,) + named, number) for ring, number in self.news]
        else:
            told = [put_in_order(named, 1)]
        return [pair for pair in told if pair is not None]


class OddCube(Cube):
    """A cube whose step is the odd step, with arrows."""

    def __init__(self, drawing, arrows):
        Cube.__init__(self, drawing)
        self.arrows = arrow_bits(drawing, arrows)
        self.odd_edges = {}
        self.sign_table = {}

    def odd_edge(self, choice, crossing):
        """The odd edge of a choice with 0 at this crossing."""
        key = (choice, crossing)
        if key not in self.odd_edges:
            word, rings = self.edge_at(choice, crossing)
            names = names_led(word, rings, self.ring_count(choice))
            news = []
            if word == "split":
                behind = raised(choice, crossing)
                row = self.drawing.crossings[crossing]
                sign = 1 - 2 * self.arrows[crossing]
                news = [(self.ring_of(behind, row[UNDER_IN]), sign), (self.ring_of(behind, row[UNDER_OUT]), -sign)]
            self.odd_edges[key] = OddEdge(names, news)
        return self.odd_edges[key]

    def led_twice(self, choice, one, other):
        """The sum of rows to which the empty row is led along one crossing and then another one."""
        last = self.odd_edge(raised(choice, one), other)
        told = {}
        for row, number in self.odd_edge(choice, one).rows_led(()):
            for goal, more in last.rows_led(row):
                told[goal] = told.get(goal, 0) + number * more
        return {goal: told[goal] for goal in told if told[goal] != 0}

    def kind_of(self, choice, one, other):
        """The kind of the square of a choice with 0 at two crossings."""
        there = self.led_twice(choice, one, other)
        if not there:
            return self.turn_of(choice, one, other)
        if there == self.led_twice(choice, other, one):
            return "same"
        return "against"

    def turn_of(self, choice, one, other):
        """Whether the ring comes from the tail of one crossing to the tail or to the head of the other one first."""
        crossings = self.drawing.crossings
        into, out = into_spots(crossings), out_spots(crossings)
        index, place = one, 2 * self.arrows[one]
        while index != other:
            # Along the strand of this crossing, and from its end along the arc.
            leaving = PLACES_JOINED[choice[index]][place]
            slot = slots_of(crossings[index])[leaving]
            index, slot = other_end(crossings, into, out, index, slot)
            place = place_of(crossings[index], slot)
        return "tail" if place // 2 == self.arrows[other] else "head"

    def sign_at(self, choice, crossing):
        """The sign of the edge of a choice with 0 at this crossing."""
        key = (choice, crossing)
        if key not in self.sign_table:
            ones = [index for index, bit in enumerate(choice) if bit == 1 and index > crossing]
            sign = 1
            if ones:
                last = ones[-1]
                lowered = choice[:last] + (0,) + choice[last + 1:]
                sign = self.sign_at(lowered, crossing)
                if self.kind_of(lowered, crossing, last) in ("same", "tail"):
                    sign = -sign
            self.sign_table[key] = sign
        return self.sign_table[key]

    def step_from(self, state):
        """The sum of states to which the odd step leads a state."""
        choice, marks = state
        row = row_of(marks)
        told = {}
        for crossing, bit in enumerate(choice):
            if bit == 0:
                sign = self.sign_at(choice, crossing)
                behind = raised(choice, crossing)
                many = self.ring_count(behind)
                for goal, number in self.odd_edge(choice, crossing).rows_led(row):
                    told[(behind, marks_of(goal, many))] = sign * number
        return told
