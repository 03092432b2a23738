"""States by height and weight, and the rows of the step between them."""

from ringcubes.drawings import need_cube, need_drawing
from ringcubes.kinds import need_number
from ringcubes.steps import Cube


def marks_with(many, ups):
    """The ascending list of tuples of so many marks, ups of which are 1."""
    rows = [((), ups)]
    for left in range(many, 0, -1):
        longer = []
        for marks, rest in rows:
            if rest < left:
                longer.append((marks + (-1,), rest))
            if rest > 0:
                longer.append((marks + (1,), rest - 1))
        rows = longer
    return [marks for marks, _ in rows]


def states_at(cube, height, weight):
    """The ascending list of the states of the cube of this height and weight."""
    found = []
    for choice in cube.all_choices():
        own_height, lift = cube.lift_of(choice)
        if own_height != height:
            continue
        many = cube.ring_count(choice)
        twice = weight - lift + many
        if twice % 2 == 0 and 0 <= twice <= 2 * many:
            found.extend([(choice, marks) for marks in marks_with(many, twice // 2)])
    return found


def need_spot(drawing, height, weight):
    """Raise what states and step_rows raise."""
    need_drawing(drawing)
    need_number(height, "height")
    need_number(weight, "weight")
    need_cube(drawing)


def states(drawing, height, weight):
    """The ascending list of all states of this height and weight."""
    need_spot(drawing, height, weight)
    return states_at(Cube(drawing), height, weight)


def rows_at(cube, height, weight):
    """For each state of a cube there how many times its step leads it to each one of a height more."""
    goals = states_at(cube, height + 1, weight)
    rows = []
    for state in states_at(cube, height, weight):
        led = cube.step_from(state)
        rows.append(tuple([led.get(goal, 0) for goal in goals]))
    return tuple(rows)


def step_rows(drawing, height, weight):
    """For each state there how many times the step leads it to each one of a height more."""
    need_spot(drawing, height, weight)
    return rows_at(Cube(drawing), height, weight)
