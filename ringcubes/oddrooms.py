"""What the odd step leaves, over primes and over whole numbers."""

from ringcubes.drawings import need_cube
from ringcubes.kinds import need_prime
from ringcubes.layers import rooms_left, whole_left
from ringcubes.oddcubes import OddCube


def odd_rooms(prime, drawing, arrows):
    """The rooms over a prime, by the odd step."""
    need_prime(prime)
    cube = OddCube(drawing, arrows)
    need_cube(drawing)
    return rooms_left(prime, cube, cube.all_states(), 0)


def odd_whole_rooms(drawing, arrows):
    """The whole rooms, by the odd step."""
    cube = OddCube(drawing, arrows)
    need_cube(drawing)
    return whole_left(cube, cube.all_states(), 0)
