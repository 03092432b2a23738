"""Rooms of long states: those with the mark -1 at the ring with one arc."""

from ringcubes.drawings import need_arc, need_cube, need_drawing
from ringcubes.kinds import need_prime
from ringcubes.layers import rooms_left, whole_left
from ringcubes.steps import Cube


def long_states(cube, arc):
    """The ascending list of the long states."""
    return [state for state in cube.all_states() if state[1][cube.ring_of(state[0], arc)] == -1]


def long_rooms(prime, drawing, arc):
    """The rooms of the long states over a prime, each counted with one weight more."""
    need_drawing(drawing)
    need_prime(prime)
    need_arc(drawing, arc)
    need_cube(drawing)
    cube = Cube(drawing)
    return rooms_left(prime, cube, long_states(cube, arc), 1)


def long_whole(drawing, arc):
    """The whole rooms of the long states, each counted with one weight more."""
    need_drawing(drawing)
    need_arc(drawing, arc)
    need_cube(drawing)
    cube = Cube(drawing)
    return whole_left(cube, long_states(cube, arc), 1)
