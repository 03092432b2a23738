"""Odd rooms of long states: those with the mark -1 at the ring with one arc."""

from ringcubes.drawings import need_arc, need_cube
from ringcubes.kinds import need_prime
from ringcubes.layers import rooms_left, whole_left
from ringcubes.longs import long_states
from ringcubes.oddcubes import OddCube


def long_odd_rooms(prime, drawing, arrows, arc):
    """The odd rooms of the long states over a prime, each counted with one weight more."""
    need_prime(prime)
    cube = OddCube(drawing, arrows)
    need_arc(drawing, arc)
    need_cube(drawing)
    return rooms_left(prime, cube, long_states(cube, arc), 1)


def long_odd_whole(drawing, arrows, arc):
    """The odd whole rooms of the long states, each counted with one weight more."""
    cube = OddCube(drawing, arrows)
    need_arc(drawing, arc)
    need_cube(drawing)
    return whole_left(cube, long_states(cube, arc), 1)
