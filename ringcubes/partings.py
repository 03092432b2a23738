"""Drawings parted at a crossing, and the ring of three rooms."""

from ringcubes.drawings import Drawing, arcs_behind, checked_drawing, need_crossing, need_cube, need_drawing, ways
from ringcubes.ends import OVER_IN, OVER_OUT, UNDER_IN, UNDER_OUT, exchanged_row
from ringcubes.kinds import ascending, need_prime
from ringcubes.layers import step_ranks
from ringcubes.rings import keeps_directions
from ringcubes.steps import Cube
from ringcubes.strands import linked, turned_rows


def arcs_between(drawing, first, last):
    """The arcs of the strand from first on to last."""
    behind = arcs_behind(drawing)
    found = [first]
    while found[-1] != last:
        found.append(behind[found[-1]])
    return found


def turned_and_joined(drawing, crossing):
    """For the choice that keeps not all directions: the arcs turned round, and which arcs lead on into which."""
    row = drawing.crossings[crossing]
    way = [arcs for arcs in ways(drawing) if row[OVER_IN] in arcs][0]
    if row[UNDER_OUT] in way:
        turned = arcs_between(drawing, row[UNDER_OUT], row[OVER_IN])
        return turned, {row[UNDER_IN]: row[OVER_IN], row[UNDER_OUT]: row[OVER_OUT]}
    return way, {row[UNDER_IN]: row[OVER_IN], row[OVER_OUT]: row[UNDER_OUT]}


def parted_so(drawing, crossing, bit):
    """The drawing in which the crossing is left out and its arcs are joined as this choice does."""
    rows = [row for index, row in enumerate(drawing.crossings) if index != crossing]
    row = drawing.crossings[crossing]
    if keeps_directions(row, bit):
        onward = {row[UNDER_IN]: row[OVER_OUT], row[OVER_IN]: row[UNDER_OUT]}
    else:
        turned, onward = turned_and_joined(drawing, crossing)
        rows = turned_rows(rows, turned)
    told, rings, _, _ = linked(rows, onward, drawing.rings)
    return checked_drawing(told, rings)


def parted(drawing, crossing):
    """For choice 0, then for choice 1, a triple (told, height, weight) of the drawing parted at a crossing."""
    need_drawing(drawing)
    need_crossing(drawing, crossing)
    found = []
    for bit in (0, 1):
        told = parted_so(drawing, crossing, bit)
        less = drawing.minus - told.minus
        found.append((told, bit - less, bit + drawing.plus - told.plus - 2 * less))
    return tuple(found)


def exchanged(drawing, crossing):
    """The drawing with over and under exchanged at one crossing."""
    need_drawing(drawing)
    need_crossing(drawing, crossing)
    rows = list(drawing.crossings)
    rows[crossing] = exchanged_row(rows[crossing])
    return Drawing(rows, drawing.rings)


def ranks_with(prime, cube, crossing, bit):
    """The ranks of the step from states with this choice at the crossing to such."""
    return step_ranks(prime, cube, [state for state in cube.all_states() if state[0][crossing] == bit])


def ring_ranks(prime, drawing, crossing):
    """How many rooms of choice 0 the edges of the crossing lead to rooms of choice 1."""
    need_prime(prime)
    need_drawing(drawing)
    need_crossing(drawing, crossing)
    need_cube(drawing)
    cube = Cube(drawing)
    parts = [ranks_with(prime, cube, crossing, bit) for bit in (0, 1)]
    whole = step_ranks(prime, cube, cube.all_states())
    found = {}
    for spot in whole:
        # The step has the ranks of both parts, and besides just what it leads from what is left of the one on.
        many = whole[spot][1] - sum([part.get(spot, (0, 0, ()))[1] for part in parts])
        if many > 0:
            found[spot] = many
    return ascending(found)
