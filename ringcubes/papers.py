"""Papers of moves, local ones, and of rows of moves."""

from ringcubes.drawings import need_cube, need_drawing
from ringcubes.errors import BadMove
from ringcubes.kinds import is_list
from ringcubes.maps import plain_table
from ringcubes.matches import Match, ones_sign, turned_table
from ringcubes.moves import (kink_loop, kinked, laid_over, overlap_arcs, pulled_off, ring_kinked, slid, three_strands,
                             unkinked)
from ringcubes.rings import joined_slots
from ringcubes.shrinks import KinkPlan, OverlapPlan, shrunk
from ringcubes.steps import Cube
from ringcubes.strands import without
from ringcubes.tables import paper_behind, paper_turned, table_behind

VALUES = {"kinked": 3, "ring_kinked": 1, "unkinked": 1, "laid_over": 2, "pulled_off": 2, "slid": 1}
MOST_MOVES = 12


def need_move(move):
    """Raise BadMove unless move is a tuple of a word and as many values as told."""
    if not isinstance(move, tuple) or not move or not isinstance(move[0], str) or move[0] not in VALUES:
        raise BadMove("no tuple that begins with the word of a move")
    if len(move) != 1 + VALUES[move[0]]:
        raise BadMove("too many or too few values")


def moved_by(drawing, move):
    """What the function of the move returns."""
    word = move[0]
    if word == "kinked":
        return kinked(drawing, move[1], move[2], move[3])
    if word == "ring_kinked":
        return ring_kinked(drawing, move[1])
    if word == "unkinked":
        return unkinked(drawing, move[1])
    if word == "laid_over":
        return laid_over(drawing, move[1], move[2])
    if word == "pulled_off":
        return pulled_off(drawing, move[1], move[2])
    return slid(drawing, move[1])


def bit_joining(crossing, one, other):
    """The choice at the crossing that joins the ends of two arcs there."""
    for near, far in joined_slots(crossing, 0):
        if sorted([crossing[near], crossing[far]]) == sorted([one, other]):
            return 0
    return 1


def kept_places(many, gone):
    """For so many crossings the pairs (index, place) of those that stay when some go."""
    kept = [index for index in range(many) if index not in gone]
    return tuple([(index, place) for place, index in enumerate(kept)])


def dropped_table(plan, plain_states, small, gone, inner):
    """The table from plain states to those of the drawing small, which lacks the crossings gone."""
    drawing = plan.cube.drawing
    _, _, names, loops = without(drawing, gone)
    outer = {arc: names[arc] for arc in names if arc not in inner}
    beside = {arc: loops[arc] for arc in loops if arc not in inner}
    pairing = Match(plan.cube, Cube(small), outer, beside)
    many = len(drawing.crossings)
    # What goes is taken to the end of the sequence, so that its choice is ahead of no other one.
    places = [index + many if index in gone else index for index in range(many)]
    told = {}
    for state in plain_states:
        choice = state[0]
        rest = tuple([bit for index, bit in enumerate(choice) if index not in gone])
        told[state] = {pairing.state_led(state, rest): ones_sign(choice, places)}
    return told


def paper_to_small(plan, small, gone, inner):
    """The paper from the drawing of a plan to the drawing small, which lacks the crossings gone."""
    there, back, bridge = shrunk(plan.cube, plan)
    led = dropped_table(plan, list(back), small, gone, inner)
    return table_behind(there, led), table_behind(turned_table(led), back), bridge, {}


def unkinked_paper(drawing, moved, crossing):
    """The paper from a drawing with a kink to that without it."""
    loop = kink_loop(drawing, crossing)
    return paper_to_small(KinkPlan(Cube(drawing), crossing, loop), moved, [crossing], [loop])


def overlap_plan(drawing, one, other):
    """The partners at two crossings at which one strand lies over another one, and both arcs between."""
    top, low = overlap_arcs(drawing, one, other)
    bits = (bit_joining(drawing.crossings[one], top, low), bit_joining(drawing.crossings[other], top, low))
    return OverlapPlan(Cube(drawing), (one, other), bits, top, None, 0), [top, low]


def pulled_off_paper(drawing, moved, one, other):
    """The paper from a drawing with one strand over another one to that without these crossings."""
    plan, inner = overlap_plan(drawing, one, other)
    return paper_to_small(plan, moved, [one, other], inner)


def slid_crossings(top, mid):
    """The crossings of the edges of a slid face: upper and middle, upper and lower, middle and lower strand."""
    one, other = top[1], top[3]
    if one not in (mid[1], mid[3]):
        one, other = other, one
    third = mid[1] if mid[1] != one else mid[3]
    return one, other, third


def slid_plan(drawing, arcs, crossings):
    """The partners at a face to be slid, where the crossing of the two lower strands makes it one of two corners."""
    top, mid, low = arcs
    one, other, third = crossings
    bits = (bit_joining(drawing.crossings[one], top, mid), bit_joining(drawing.crossings[other], top, low))
    third_bit = bit_joining(drawing.crossings[third], mid, low)
    return OverlapPlan(Cube(drawing), (one, other), bits, top, third, third_bit)


def slid_table(plan, goal_plan, plain_states, inner):
    """The table from the plain states of a face to those of the face behind the move."""
    drawing = plan.cube.drawing
    pairing = Match(plan.cube, goal_plan.cube, {arc: arc for arc in drawing.arcs if arc not in inner}, {})
    one, other = plan.crossings
    places = list(range(len(drawing.crossings)))
    places[one], places[other] = other, one
    told = {}
    for state in plain_states:
        choice = state[0]
        if choice[plan.third] == plan.third_bit:
            told[state] = {pairing.state_led(state, choice): 1 - 2 * plan.third_bit}
        else:
            exchanged = tuple([choice[place] for place in places])
            told[state] = {pairing.state_led(state, exchanged): ones_sign(choice, places)}
    return told


def slid_paper(drawing, moved, face):
    """The paper of a face slid, and its crossings; all keep their indexes."""
    top, mid, low = three_strands(drawing, face)
    arcs = (top[0], mid[0], low[0])
    crossings = slid_crossings(top, mid)
    plan = slid_plan(drawing, arcs, crossings)
    goal_plan = slid_plan(moved, arcs, crossings)
    there, back, bridge = shrunk(plan.cube, plan)
    goal_there, goal_back, goal_bridge = shrunk(goal_plan.cube, goal_plan)
    led = slid_table(plan, goal_plan, list(back), arcs)
    paper = (table_behind(table_behind(there, led), goal_back),
             table_behind(table_behind(goal_there, turned_table(led)), back), bridge, goal_bridge)
    return paper, crossings


def kept_and_paper(drawing, moved, move):
    """The kept crossings of a move and its paper."""
    word = move[0]
    many = len(drawing.crossings)
    if word == "kinked" or word == "ring_kinked":
        return kept_places(many, []), paper_turned(unkinked_paper(moved, drawing, many))
    if word == "unkinked":
        return kept_places(many, [move[1]]), unkinked_paper(drawing, moved, move[1])
    if word == "laid_over":
        return kept_places(many, []), paper_turned(pulled_off_paper(moved, drawing, many, many + 1))
    if word == "pulled_off":
        return kept_places(many, move[1:]), pulled_off_paper(drawing, moved, move[1], move[2])
    paper, touched = slid_paper(drawing, moved, move[1])
    return tuple([(index, index) for index in range(many) if index not in touched]), paper


def move_paper(drawing, move):
    """A triple (moved, kept, paper) of a move."""
    need_drawing(drawing)
    need_move(move)
    moved = moved_by(drawing, move)
    need_cube(drawing)
    need_cube(moved)
    kept, paper = kept_and_paper(drawing, moved, move)
    return moved, kept, paper


def row_paper(drawing, row):
    """A pair (moved, paper) of a row of moves, one behind the other."""
    need_drawing(drawing)
    if not is_list(row) or len(row) > MOST_MOVES:
        raise BadMove("no list of at most 12 moves")
    stations = [drawing]
    for move in row:
        need_move(move)
        stations.append(moved_by(stations[-1], move))
    for station in stations:
        need_cube(station)
    cube = Cube(drawing)
    paper = (plain_table(cube), plain_table(cube), {}, {})
    for at, move in enumerate(row):
        _, more = kept_and_paper(stations[at], stations[at + 1], move)
        paper = paper_behind(paper, more)
    return stations[-1], paper
