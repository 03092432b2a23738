"""Papers between drawings that differ in names of arcs and in the sequence of crossings alone."""

from ringcubes.drawings import need_cube, need_drawing
from ringcubes.errors import NotHere
from ringcubes.likeness import likeness
from ringcubes.matches import Match, ones_sign, turned_table
from ringcubes.steps import Cube


def alike_paper(one, other):
    """A paper from one drawing to one alike, whose last two tables are empty."""
    need_drawing(one)
    need_drawing(other)
    found = likeness(one, other)
    if found is None:
        raise NotHere("the drawings are not alike")
    need_cube(one)
    order, names = found
    places = [order.index(index) for index in range(len(order))]
    pairing = Match(Cube(one), Cube(other), names, {})
    there = {}
    for state in pairing.cube.all_states():
        choice = state[0]
        goal_choice = tuple([choice[index] for index in order])
        there[state] = {pairing.state_led(state, goal_choice): ones_sign(choice, places)}
    return there, turned_table(there), {}, {}
