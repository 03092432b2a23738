"""Drawings for the tests, and the words of the document done once more, slowly and plainly."""

import itertools
from fractions import Fraction

from ringcubes import errors
from ringcubes.braids import closed_braid
from ringcubes.drawings import Drawing
from ringcubes.errors import RingError

NO_NUMBERS = (None, True, False, "1", "", 1.0, (1,), [1], {}, b"1")
NO_DRAWINGS = (None, True, 0, "drawing", (), [], {}, ((), 0), Drawing)

NOTHING = Drawing([], 0)
RING = Drawing([], 1)
RINGS = Drawing([], 3)
KINK = Drawing([(1, 0, 1, 1, 0)], 0)
KINK_BACK = Drawing([(-1, 0, 1, 1, 0)], 1)
HOPF = Drawing([(1, 1, 2, 0, 3), (1, 3, 0, 2, 1)], 0)
TREFOIL = Drawing([(1, 1, 2, 0, 3), (1, 3, 4, 2, 5), (1, 5, 0, 4, 1)], 0)
LEFT = closed_braid(2, [-1, -1, -1])
EIGHT = closed_braid(3, [1, -2, 1, -2])
BORROMEAN = closed_braid(3, [1, -2, 1, -2, 1, -2])
TWO_PIECES = closed_braid(5, [1, 1, 3, -3, 3])
MIXED = closed_braid(4, [1, -1, 2])
LOOSE = closed_braid(3, [1, -1])
HANDS = closed_braid(3, [1, 1, 2, 2])
NOT_BY_TURNS = closed_braid(3, [1, 2, 1, 2])

SAMPLES = (NOTHING, RING, RINGS, KINK, KINK_BACK, HOPF, TREFOIL, LEFT, EIGHT, BORROMEAN, TWO_PIECES, MIXED,
           LOOSE, HANDS, NOT_BY_TURNS)
SMALL = tuple(drawing for drawing in SAMPLES if len(drawing.crossings) <= 5)


def told_error(call, *args, **named):
    """The name of the error that a call raises, and its attribute, if it has one; None if it raises none."""
    try:
        call(*args, **named)
    except RingError as error:
        name = type(error).__name__
        assert getattr(errors, name) is type(error)
        kept = vars(error)
        return (name,) + tuple(kept.values())
    return None


def same_kinds(one, other):
    """Whether two values are equal, kinds of all things within them included."""
    if type(one) is not type(other):
        return False
    if isinstance(one, (list, tuple)):
        return len(one) == len(other) and all(same_kinds(a, b) for a, b in zip(one, other))
    if isinstance(one, dict):
        return same_kinds(list(one.items()), list(other.items()))
    return one == other


def is_ascending(table):
    """Whether the keys of a dict come in ascending order."""
    return list(table) == sorted(table)


def ends_of(crossing):
    """The four (arc, whether in) ends of a crossing, going round it to the left."""
    sign, under_in, under_out, over_in, over_out = crossing
    if sign == 1:
        return [(under_in, True), (over_out, False), (under_out, False), (over_in, True)]
    return [(under_in, True), (over_in, True), (under_out, False), (over_out, False)]


def joined(crossing, bit):
    """The pairs of arcs that a choice joins at a crossing."""
    sign, under_in, under_out, over_in, over_out = crossing
    if (sign, bit) in ((1, 0), (-1, 1)):
        return [(under_in, over_out), (over_in, under_out)]
    return [(under_in, over_in), (under_out, over_out)]


def plain_rings(drawing, choice):
    """The rings of a choice, by merging sets."""
    sets = [{arc} for arc in drawing.arcs]
    for crossing, bit in zip(drawing.crossings, choice):
        for one, other in joined(crossing, bit):
            with_one = next(row for row in sets if one in row)
            with_other = next(row for row in sets if other in row)
            if with_one is not with_other:
                sets.remove(with_other)
                with_one |= with_other
    return [()] * drawing.rings + sorted(tuple(sorted(row)) for row in sets)


def plain_states(drawing):
    """All states, ascending."""
    found = []
    for choice in itertools.product((0, 1), repeat=len(drawing.crossings)):
        for marks in itertools.product((-1, 1), repeat=len(plain_rings(drawing, choice))):
            found.append((choice, marks))
    return found


def plain_spot(drawing, state):
    """Height and weight of a state."""
    choice, marks = state
    plus = sum(1 for crossing in drawing.crossings if crossing[0] == 1)
    minus = len(drawing.crossings) - plus
    return sum(choice) - minus, sum(marks) + sum(choice) + plus - 2 * minus


def plain_step(drawing, state):
    """The sum to which the step leads a state; rings are told by their arcs."""
    choice, marks = state
    ahead = plain_rings(drawing, choice)
    told = {}
    for index, bit in enumerate(choice):
        if bit == 1:
            continue
        next_choice = choice[:index] + (1,) + choice[index + 1:]
        behind = plain_rings(drawing, next_choice)
        sign = (-1) ** sum(choice[:index])
        gone = [ring for ring in ahead if ring not in behind]
        come = [ring for ring in behind if ring not in ahead]
        kept = {ring: mark for ring, mark in zip(ahead, marks) if ring and ring not in gone}
        own = [mark for ring, mark in zip(ahead, marks) if ring in gone]
        if len(gone) == 2:
            results = {(1, 1): [(1,)], (1, -1): [(-1,)], (-1, 1): [(-1,)], (-1, -1): []}[tuple(own)]
        else:
            results = {1: [(1, -1), (-1, 1)], -1: [(-1, -1)]}[own[0]]
        for result in results:
            fresh = dict(zip(come, result))
            row = list(marks[:drawing.rings])
            row += [fresh[ring] if ring in fresh else kept[ring] for ring in behind[drawing.rings:]]
            goal = (next_choice, tuple(row))
            told[goal] = told.get(goal, 0) + sign
    return told


def plain_rank(prime, rows):
    """How many rows are independent modulo a prime; over fractions for the prime 0."""
    number = (lambda worth: worth % prime) if prime else Fraction
    rows = [[number(worth) for worth in row] for row in rows]
    rank = 0
    for column in range(len(rows[0]) if rows else 0):
        lead = next((row for row in rows[rank:] if row[column]), None)
        if lead is None:
            continue
        rows.remove(lead)
        rows.insert(rank, lead)
        over = pow(lead[column], -1, prime) if prime else 1 / lead[column]
        for row in rows[rank + 1:]:
            times = row[column] * over
            if times:
                for at in range(column, len(row)):
                    row[at] = number(row[at] - times * lead[at])
        rank += 1
    return rank


def by_spots(drawing):
    """A dict from pairs (height, weight) to the ascending lists of states there."""
    found = {}
    for state in plain_states(drawing):
        found.setdefault(plain_spot(drawing, state), []).append(state)
    return found


def plain_rows(drawing, spots, spot):
    """The rows of the step at a pair (height, weight)."""
    goals = spots.get((spot[0] + 1, spot[1]), [])
    told = [plain_step(drawing, state) for state in spots.get(spot, [])]
    return [[row.get(goal, 0) for goal in goals] for row in told]


def plain_rooms(prime, drawing, chosen=None):
    """The rooms by dense rows; of the states chosen alone, if some are."""
    spots = by_spots(drawing)
    if chosen is not None:
        spots = {spot: [state for state in spots[spot] if chosen(state)] for spot in spots}
    ranks = {spot: plain_rank(prime, plain_rows(drawing, spots, spot)) for spot in spots}
    found = {}
    for spot in sorted(spots):
        many = len(spots[spot]) - ranks[spot] - ranks.get((spot[0] - 1, spot[1]), 0)
        if many:
            found[spot] = many
    return found


def led_by(table, told):
    """The sum to which a table leads a sum."""
    total = {}
    for state, times in told.items():
        for goal, number in table.get(state, {}).items():
            total[goal] = total.get(goal, 0) + times * number
    return {goal: number for goal, number in total.items() if number}


def sums_added(*parts):
    """The sum of pairs (times, sum)."""
    total = {}
    for times, told in parts:
        for goal, number in told.items():
            total[goal] = total.get(goal, 0) + times * number
    return {goal: number for goal, number in total.items() if number}


def step_table(drawing):
    """The step as a table."""
    return {state: plain_step(drawing, state) for state in plain_states(drawing)}


def fault_of_map(one, other, more, table):
    """What is wrong with a map, by the words of the document; None if nothing is."""
    near, far = step_table(one), step_table(other)
    for state, told in table.items():
        if state not in near or not told or any(goal not in far for goal in told):
            return "states"
        height, weight = plain_spot(one, state)
        if any(plain_spot(other, goal) != (height, weight + more) for goal in told):
            return "spots"
    for state in near:
        if led_by(table, near[state]) != led_by(far, table.get(state, {})):
            return "steps"
    return None


def fault_of_bridge(one, other, more, first, second, table):
    """What is wrong with a bridge, by the words of the document; None if nothing is."""
    near, far = step_table(one), step_table(other)
    for state, told in table.items():
        if state not in near or not told or any(goal not in far for goal in told):
            return "states"
        height, weight = plain_spot(one, state)
        if any(plain_spot(other, goal) != (height - 1, weight + more) for goal in told):
            return "spots"
    for state in near:
        gap = sums_added((1, first.get(state, {})), (-1, second.get(state, {})))
        if gap != sums_added((1, led_by(far, table.get(state, {}))), (1, led_by(table, near[state]))):
            return "gap"
    return None


def fault_of_paper(one, other, paper):
    """What is wrong with a paper, by the words of the document; None if nothing is."""
    there, back, ahead, behind = paper
    around = {state: led_by(back, there[state]) for state in there}
    around_back = {state: led_by(there, back[state]) for state in back}
    plain = {state: {state: 1} for state in plain_states(one)}
    plain_back = {state: {state: 1} for state in plain_states(other)}
    return (fault_of_map(one, other, 0, there) or fault_of_map(other, one, 0, back)
            or fault_of_bridge(one, one, 0, around, plain, ahead)
            or fault_of_bridge(other, other, 0, around_back, plain_back, behind))
