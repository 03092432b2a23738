"""The cube of a drawing: its states, worked out once, and where the step leads them."""

from ringcubes.kinds import is_row, is_sign
from ringcubes.rings import edge_told, is_choice, raised, ring_indexes, ring_rows


def rows_over(values, many):
    """The list of all tuples of so many values, ascending if the values are."""
    rows = [()]
    for _ in range(many):
        rows = [row + (value,) for row in rows for value in values]
    return rows


def without_two(marks, one, other):
    """The marks without those at two indexes, one below the other."""
    return marks[:one] + marks[one + 1:other] + marks[other + 1:]


def with_one(marks, index, mark):
    """The marks with one more at this index."""
    return marks[:index] + (mark,) + marks[index:]


def with_two(marks, one, one_mark, other, other_mark):
    """The marks with two more at these indexes, one below the other."""
    return with_one(with_one(marks, one, one_mark), other, other_mark)


def marks_joined(marks, one, other, index):
    """The list of marks that come if the rings one and other are joined to that of index behind."""
    if marks[one] == -1 and marks[other] == -1:
        return []
    mark = 1 if marks[one] == 1 and marks[other] == 1 else -1
    return [with_one(without_two(marks, one, other), index, mark)]


def marks_split(marks, index, one, other):
    """The list of marks that come if the ring of index is split to the rings one and other behind."""
    rest = marks[:index] + marks[index + 1:]
    if marks[index] == -1:
        return [with_two(rest, one, -1, other, -1)]
    return [with_two(rest, one, 1, other, -1), with_two(rest, one, -1, other, 1)]


def marks_led(word, rings, marks):
    """The list of marks to which those along an edge are led."""
    one, other, third = rings
    if word == "join":
        return marks_joined(marks, one, other, third)
    return marks_split(marks, one, other, third)


class Cube:
    """The choices of a drawing, their rings, and the edges between them, each worked out once."""

    def __init__(self, drawing):
        self.drawing = drawing
        self.ring_tables = {}
        self.edge_lists = {}

    def rings_with(self, choice):
        """The rings of a choice, and the dict from arcs to their indexes."""
        if choice not in self.ring_tables:
            rows = ring_rows(self.drawing, choice)
            self.ring_tables[choice] = (rows, ring_indexes(rows))
        return self.ring_tables[choice]

    def ring_of(self, choice, arc):
        """The index of the ring of this arc."""
        return self.rings_with(choice)[1][arc]

    def ring_count(self, choice):
        """How many rings come of a choice."""
        return len(self.rings_with(choice)[0])

    def edge_at(self, choice, crossing):
        """The edge of a choice with 0 at this crossing."""
        ahead = self.rings_with(choice)[1]
        behind = self.rings_with(raised(choice, crossing))[1]
        return edge_told(self.drawing.crossings[crossing], ahead, behind)

    def edges_from(self, choice):
        """The list of all edges from a choice: (sign, choice behind, word, indexes)."""
        if choice not in self.edge_lists:
            rows = []
            for crossing, bit in enumerate(choice):
                if bit == 0:
                    word, rings = self.edge_at(choice, crossing)
                    sign = 1 - 2 * (sum(choice[:crossing]) % 2)
                    rows.append((sign, raised(choice, crossing), word, rings))
            self.edge_lists[choice] = rows
        return self.edge_lists[choice]

    def step_from(self, state):
        """The sum of states to which the step leads a state."""
        choice, marks = state
        told = {}
        for sign, behind, word, rings in self.edges_from(choice):
            for row in marks_led(word, rings, marks):
                told[(behind, row)] = sign
        return told

    def all_choices(self):
        """The ascending list of all choices."""
        return rows_over((0, 1), len(self.drawing.crossings))

    def all_states(self):
        """The ascending list of all states."""
        found = []
        for choice in self.all_choices():
            for marks in rows_over((-1, 1), self.ring_count(choice)):
                found.append((choice, marks))
        return found

    def lift_of(self, choice):
        """What all states of a choice have as height, and as weight besides their marks."""
        ones = sum(choice)
        minus = self.drawing.minus
        return ones - minus, ones + self.drawing.plus - 2 * minus

    def spot_of(self, state):
        """The pair (height, weight) of a state."""
        choice, marks = state
        height, weight = self.lift_of(choice)
        return height, weight + sum(marks)

    def has_state(self, thing):
        """Whether any value is a state of the drawing."""
        if not is_row(thing, 2) or not is_choice(self.drawing, thing[0]):
            return False
        choice, marks = thing
        return is_row(marks, self.ring_count(choice)) and all([is_sign(mark) for mark in marks])
