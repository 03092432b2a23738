"""Rooms of drawings, over primes and over whole numbers."""

from ringcubes.drawings import need_cube, need_drawing
from ringcubes.errors import BadTable
from ringcubes.kinds import ascending, is_number, is_row, is_spot, need_prime
from ringcubes.layers import rooms_left, whole_left
from ringcubes.steps import Cube


def rooms(prime, drawing):
    """The rooms over a prime: the ascending dict from pairs (height, weight) to numbers from 1 on."""
    need_drawing(drawing)
    need_prime(prime)
    need_cube(drawing)
    cube = Cube(drawing)
    return rooms_left(prime, cube, cube.all_states(), 0)


def whole_rooms(drawing):
    """The rooms over whole numbers: the ascending dict from pairs (height, weight) to pairs (free, twists)."""
    need_drawing(drawing)
    need_cube(drawing)
    cube = Cube(drawing)
    return whole_left(cube, cube.all_states(), 0)


def are_twists(thing):
    """Whether thing is a tuple of numbers from 2 on, each of which divides the next one."""
    if not isinstance(thing, tuple) or not all([is_number(number) and number > 1 for number in thing]):
        return False
    return all([more % less == 0 for less, more in zip(thing, thing[1:])])


def is_whole_part(thing):
    """Whether thing is a pair (free, twists)."""
    return is_row(thing, 2) and is_number(thing[0]) and thing[0] >= 0 and are_twists(thing[1])


def need_whole(whole):
    """Raise BadTable unless whole is a dict from pairs of numbers to pairs (free, twists)."""
    if not isinstance(whole, dict):
        raise BadTable("no dict")
    if not all([is_spot(spot) and is_whole_part(whole[spot]) for spot in whole]):
        raise BadTable("no dict from pairs of numbers to pairs (free, twists)")


def rooms_of(prime, whole):
    """The rooms over a prime that whole rooms tell."""
    need_prime(prime)
    need_whole(whole)
    found = {}
    for spot in whole:
        height, weight = spot
        free, twists = whole[spot]
        many = len([twist for twist in twists if twist % prime == 0])
        found[spot] = found.get(spot, 0) + free + many
        below = (height - 1, weight)
        found[below] = found.get(below, 0) + many
    return ascending({spot: found[spot] for spot in found if found[spot] > 0})
