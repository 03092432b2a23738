"""Odd marks: the kinds of squares, the signs of odd edges, and the rows of the odd step."""

from ringcubes.cube import rows_at
from ringcubes.drawings import need_cube
from ringcubes.errors import BadCrossing
from ringcubes.kinds import is_index, need_number
from ringcubes.oddcubes import OddCube
from ringcubes.rings import need_choice


def square_kind(drawing, arrows, choice, one, other):
    """The kind of the square of a choice with 0 at two crossings: same, against, tail or head."""
    cube = OddCube(drawing, arrows)
    need_choice(drawing, choice)
    many = len(drawing.crossings)
    for crossing in (one, other):
        if not is_index(crossing, many) or choice[crossing] != 0:
            raise BadCrossing("no index of a crossing with choice 0")
    if one == other:
        raise BadCrossing("one crossing twice")
    return cube.kind_of(choice, one, other)


def odd_signs(drawing, arrows):
    """The ascending dict from pairs (choice, crossing), with choice 0 there, to signs of edges."""
    cube = OddCube(drawing, arrows)
    need_cube(drawing)
    told = {}
    for choice in cube.all_choices():
        for crossing, bit in enumerate(choice):
            if bit == 0:
                told[(choice, crossing)] = cube.sign_at(choice, crossing)
    return told


def odd_step_rows(drawing, arrows, height, weight):
    """For each state there how many times the odd step leads it to each one of a height more."""
    cube = OddCube(drawing, arrows)
    need_number(height, "height")
    need_number(weight, "weight")
    need_cube(drawing)
    return rows_at(cube, height, weight)
