"""Dots on arcs, as maps, and the bridges between dots on one way."""

from ringcubes.drawings import arcs_behind, need_arc, need_cube, need_drawing, ways
from ringcubes.ends import into_spots
from ringcubes.errors import NotHere
from ringcubes.steps import Cube, marks_joined, marks_split
from ringcubes.tables import add_times


def dotted(drawing, arc):
    """The table that leads states whose ring with this arc has the mark 1 to those with -1 there."""
    need_drawing(drawing)
    need_arc(drawing, arc)
    need_cube(drawing)
    cube = Cube(drawing)
    told = {}
    for state in cube.all_states():
        choice, marks = state
        ring = cube.ring_of(choice, arc)
        if marks[ring] == 1:
            told[state] = {(choice, marks[:ring] + (-1,) + marks[ring + 1:]): 1}
    return told


def marks_back(word, rings, marks):
    """The list of marks to which those behind an edge are led back along it."""
    one, other, third = rings
    if word == "join":
        return marks_split(marks, third, one, other)
    return marks_joined(marks, other, third, one)


def step_back(cube, state, crossing):
    """The sum to which a state with choice 1 at the crossing is led back along the edge there."""
    choice, marks = state
    ahead = choice[:crossing] + (0,) + choice[crossing + 1:]
    word, rings = cube.edge_at(ahead, crossing)
    sign = 1 - 2 * (sum(choice[:crossing]) % 2)
    return {(ahead, row): sign for row in marks_back(word, rings, marks)}


def crossings_between(drawing, one, other):
    """The indexes of the crossings that the strand goes through from arc one to arc other."""
    behind = arcs_behind(drawing)
    into = into_spots(drawing.crossings)
    found = []
    arc = one
    while arc != other:
        found.append(into[arc][0])
        arc = behind[arc]
    return found


def dots_bridge(drawing, one, other):
    """A pair (sign, thing): thing is a bridge from the dot at one to sign times the dot at other."""
    need_drawing(drawing)
    need_arc(drawing, one)
    need_arc(drawing, other)
    if not any([one in way and other in way for way in ways(drawing)]):
        raise NotHere("the arcs are not of one way")
    need_cube(drawing)
    cube = Cube(drawing)
    passed = crossings_between(drawing, one, other)
    told = {}
    for state in cube.all_states():
        total = {}
        for at, crossing in enumerate(passed):
            if state[0][crossing] == 1:
                # Each crossing turns the sign of the dot, so that of the bridge turns with it.
                add_times(total, step_back(cube, state, crossing), 1 - 2 * (at % 2))
        if total:
            told[state] = total
    return 1 - 2 * (len(passed) % 2), told
