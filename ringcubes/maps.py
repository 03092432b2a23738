"""Maps of cubes, bridges between them, and papers: maps there and back with bridges."""

from ringcubes.drawings import need_cube, need_drawing
from ringcubes.kinds import need_number
from ringcubes.steps import Cube
from ringcubes.tables import (add_times, is_paper_form, is_table_form, led_on, need_paper, need_table, paper_behind,
                              paper_turned, table_behind, table_sum)


def plain_table(cube):
    """The table that leads each state to itself once."""
    return {state: {state: 1} for state in cube.all_states()}


def plain_map(drawing):
    """The table that leads each state of the drawing to itself once."""
    need_drawing(drawing)
    need_cube(drawing)
    return plain_table(Cube(drawing))


def composed(first, second):
    """The table that leads on by second what first leads to."""
    need_table(first)
    need_table(second)
    return table_behind(first, second)


def summed(first, second, times):
    """First, and so many times second, together."""
    need_table(first)
    need_table(second)
    need_number(times, "times")
    return table_sum(first, second, times)


def rises(one, other, up, more, thing):
    """Whether any value is a table from the cube one to the cube other that rises by (up, more)."""
    if not is_table_form(thing):
        return False
    for state in thing:
        if not one.has_state(state):
            return False
        height, weight = one.spot_of(state)
        for goal in thing[state]:
            if not other.has_state(goal) or other.spot_of(goal) != (height + up, weight + more):
                return False
    return True


def stepped(cube, told):
    """The sum to which the step leads a sum."""
    total = {}
    for state in told:
        add_times(total, cube.step_from(state), told[state])
    return total


def goes_along(one, other, table):
    """Whether a table goes along with the steps of both cubes."""
    for state in one.all_states():
        if led_on(one.step_from(state), table) != stepped(other, table.get(state, {})):
            return False
    return True


def is_map_of(one, other, more, thing):
    """Whether any value is a map from the cube one to the cube other that rises by (0, more)."""
    return rises(one, other, 0, more, thing) and goes_along(one, other, thing)


def is_map(one, other, more, thing):
    """Whether any value is a map from one to other that rises by (0, more)."""
    need_drawing(one)
    need_drawing(other)
    need_number(more, "more")
    need_cube(one)
    need_cube(other)
    return is_map_of(Cube(one), Cube(other), more, thing)


def is_bridge_of(one, other, more, gap, thing):
    """Whether any value is a bridge from the cube one to the cube other; gap is what it bridges."""
    if not rises(one, other, -1, more, thing):
        return False
    met = 0
    for state in one.all_states():
        total = led_on(one.step_from(state), thing)
        add_times(total, stepped(other, thing.get(state, {})), 1)
        if total != gap.get(state, {}):
            return False
        if state in gap:
            met += 1
    return met == len(gap)


def is_bridge(one, other, more, first, second, thing):
    """Whether any value is a bridge from first to second, from one to other, that rises by (-1, more)."""
    need_drawing(one)
    need_drawing(other)
    need_number(more, "more")
    need_table(first)
    need_table(second)
    need_cube(one)
    need_cube(other)
    return is_bridge_of(Cube(one), Cube(other), more, table_sum(first, second, -1), thing)


def is_round_trip(cube, there, back, thing):
    """Whether any value is a bridge from there and back, composed, to the plain map."""
    gap = table_sum(table_behind(there, back), plain_table(cube), -1)
    return is_bridge_of(cube, cube, 0, gap, thing)


def is_paper(one, other, thing):
    """Whether any value is a paper from one to other."""
    need_drawing(one)
    need_drawing(other)
    need_cube(one)
    need_cube(other)
    if not is_paper_form(thing):
        return False
    there, back, ahead, behind = thing
    near = Cube(one)
    far = Cube(other)
    if not is_map_of(near, far, 0, there) or not is_map_of(far, near, 0, back):
        return False
    return is_round_trip(near, there, back, ahead) and is_round_trip(far, back, there, behind)


def paper_back(paper):
    """The paper the other way round."""
    need_paper(paper)
    return paper_turned(paper)


def papers_joined(one, other):
    """A paper from the first drawing to the third one, of one to the second one and one from there on."""
    need_paper(one)
    need_paper(other)
    return paper_behind(one, other)
