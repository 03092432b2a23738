"""The older row, told by states alone, and how wide rooms lie."""

from math import comb

from ringcubes.drawings import need_cube, need_drawing
from ringcubes.errors import BadTable
from ringcubes.kinds import ascending, is_spot
from ringcubes.steps import Cube


def older_row(drawing):
    """The ascending dict from weights to the sum of (-1) ** height over all states."""
    need_drawing(drawing)
    need_cube(drawing)
    cube = Cube(drawing)
    found = {}
    for choice in cube.all_choices():
        height, lift = cube.lift_of(choice)
        many = cube.ring_count(choice)
        for ups in range(many + 1):
            weight = lift + 2 * ups - many
            found[weight] = found.get(weight, 0) + comb(many, ups) * (1 - 2 * (height % 2))
    return ascending({weight: found[weight] for weight in found if found[weight] != 0})


def widest(told):
    """How many numbers weight - 2 * height there are for the keys of a dict."""
    if not isinstance(told, dict) or not told or not all([is_spot(spot) for spot in told]):
        raise BadTable("no dict from pairs of numbers, or an empty one")
    return len({spot[1] - 2 * spot[0] for spot in told})
