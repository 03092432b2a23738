"""Where plain events lead states."""

from ringcubes.films import plain_stations
from ringcubes.steps import Cube, marks_joined, marks_split, with_one


def marks_dotted(marks, index):
    """The list of marks that come of a dot on the ring of this index."""
    if marks[index] == -1:
        return []
    return [marks[:index] + (-1,) + marks[index + 1:]]


def marks_of_rings(event, marks):
    """The list of marks to which an event of rings beside alone leads."""
    word, index = event[0], event[1]
    if word == "birth":
        return [with_one(marks, index, 1)]
    if word == "death":
        return [] if marks[index] == 1 else [marks[:index] + marks[index + 1:]]
    if word == "split":
        return marks_split(marks, index, index, event[2])
    if word == "join":
        return marks_joined(marks, index, event[2], index)
    return marks_dotted(marks, index)


def marks_of_saddle(event, near, far, state):
    """The list of marks to which a saddle leads a state; near and far are the cubes ahead and behind."""
    choice, marks = state
    arcs = [side[0] for side in event[1:]]
    one, other = sorted([near.ring_of(choice, arc) for arc in arcs])
    left, right = sorted([far.ring_of(choice, arc) for arc in arcs])
    if one != other:
        return marks_joined(marks, one, other, left)
    return marks_split(marks, one, left, right)


def marks_of_event(event, near, far, state):
    """The list of marks to which a plain event leads a state; near and far are the cubes ahead and behind."""
    choice, marks = state
    word = event[0]
    if word == "saddle":
        return marks_of_saddle(event, near, far, state)
    if word not in ("dot", "shed", "taken"):
        return marks_of_rings(event, marks)
    ring = near.ring_of(choice, event[1])
    if word == "dot":
        return marks_dotted(marks, ring)
    if word == "shed":
        return marks_split(marks, ring, event[2], ring + 1)
    return marks_joined(marks, event[2], ring, ring - 1)


def event_table(event, near, far):
    """The table of a plain event; states led to nothing are left out."""
    told = {}
    for state in near.all_states():
        rows = marks_of_event(event, near, far, state)
        if rows:
            told[state] = {(state[0], marks): 1 for marks in rows}
    return told


class FilmWay:
    """The cubes on the way of a plain film, and where it leads states."""

    def __init__(self, drawing, film):
        self.film = film
        self.cubes = [Cube(station) for station in plain_stations(drawing, film)]

    def state_led(self, state):
        """The sum of states to which a state is led, over whole numbers."""
        choice = state[0]
        told = {state[1]: 1}
        for at, event in enumerate(self.film):
            total = {}
            for marks in told:
                for row in marks_of_event(event, self.cubes[at], self.cubes[at + 1], (choice, marks)):
                    total[row] = total.get(row, 0) + told[marks]
            told = total
        return {(choice, marks): told[marks] for marks in told}
