"""The odd cube by the words of the document, done once more, slowly and plainly: rings are told by their arcs."""

import itertools

from tests.samples import by_spots, ends_of, plain_rank, plain_rings


def in_order(rings, row):
    """A row of rings in the sequence of a list, with its sign; the sign is 0 if a ring comes twice."""
    at = [rings.index(ring) for ring in row]
    if len(set(at)) < len(at):
        return (), 0
    wrong = sum(1 for one, other in itertools.combinations(at, 2) if one > other)
    return tuple(rings[place] for place in sorted(at)), (-1) ** wrong


def numbered(drawing, choice):
    """The rings of a choice, those beside told apart by numbers."""
    return [(-at - 1,) if not ring else ring for at, ring in enumerate(plain_rings(drawing, choice))]


def odd_edge(drawing, arrows, choice, crossing, row):
    """The sum of rows to which an odd edge leads a row of rings."""
    behind = numbered(drawing, choice[:crossing] + (1,) + choice[crossing + 1:])
    ahead = numbered(drawing, choice)
    become = {ring: next(new for new in behind if set(ring) & set(new)) for ring in ahead}
    named = [become[ring] for ring in row]
    if len(behind) < len(ahead):
        options = [(named, 1)]
    else:
        _, under_in, under_out, _, _ = drawing.crossings[crossing]
        tail, head = (under_in, under_out) if not (arrows and arrows[crossing]) else (under_out, under_in)
        with_tail = next(ring for ring in behind if tail in ring)
        with_head = next(ring for ring in behind if head in ring)
        options = [([with_tail] + named, 1), ([with_head] + named, -1)]
    told = {}
    for option, number in options:
        goal, sign = in_order(behind, option)
        told[goal] = told.get(goal, 0) + number * sign
    return {goal: number for goal, number in told.items() if number}


def twice(drawing, arrows, choice, one, other):
    """The sum of rows to which the empty row is led along one crossing and then another."""
    middle = choice[:one] + (1,) + choice[one + 1:]
    told = {}
    for row, number in odd_edge(drawing, arrows, choice, one, ()).items():
        for goal, more in odd_edge(drawing, arrows, middle, other, row).items():
            told[goal] = told.get(goal, 0) + number * more
    return {goal: number for goal, number in told.items() if number}


def plain_kind(drawing, arrows, choice, one, other):
    """The kind of a square."""
    first, second = twice(drawing, arrows, choice, one, other), twice(drawing, arrows, choice, other, one)
    if first or second:
        return "same" if first == second else "against"
    # Go round the ring: at each crossing the places 0 and 1, 2 and 3 are joined by choice 0, else 1 and 2, 3 and 0.
    spots = {}
    for index, crossing in enumerate(drawing.crossings):
        for place, (arc, goes_in) in enumerate(ends_of(crossing)):
            spots.setdefault(arc, []).append((index, place))
    at = (one, 2 if arrows and arrows[one] else 0)
    while True:
        index, place = at
        place = {0: 1, 1: 0, 2: 3, 3: 2}[place] if choice[index] == 0 else {0: 3, 3: 0, 1: 2, 2: 1}[place]
        arc = ends_of(drawing.crossings[index])[place][0]
        at = next(spot for spot in spots[arc] if spot != (index, place))
        if at[0] == other:
            tail = (2, 3) if arrows and arrows[other] else (0, 1)
            return "tail" if at[1] in tail else "head"


def plain_signs(drawing, arrows):
    """The signs of all odd edges."""
    told = {}
    for choice in itertools.product((0, 1), repeat=len(drawing.crossings)):
        for crossing, bit in enumerate(choice):
            if bit:
                continue
            later = [index for index in range(crossing + 1, len(choice)) if choice[index]]
            sign = 1
            if later:
                lowered = tuple(0 if index == later[-1] else bit for index, bit in enumerate(choice))
                sign = told[(lowered, crossing)]
                if plain_kind(drawing, arrows, lowered, crossing, later[-1]) in ("same", "tail"):
                    sign = -sign
            told[(choice, crossing)] = sign
    return told


def plain_odd_step(drawing, arrows, signs, state):
    """The sum of states to which the odd step leads a state."""
    choice, marks = state
    rings = numbered(drawing, choice)
    row = [ring for ring, mark in zip(rings, marks) if mark == -1]
    told = {}
    for crossing, bit in enumerate(choice):
        if bit == 0:
            raised = choice[:crossing] + (1,) + choice[crossing + 1:]
            behind = numbered(drawing, raised)
            for goal, number in odd_edge(drawing, arrows, choice, crossing, row).items():
                state = (raised, tuple(-1 if ring in goal else 1 for ring in behind))
                told[state] = told.get(state, 0) + number * signs[(choice, crossing)]
    return {state: number for state, number in told.items() if number}


def plain_odd_rows(drawing, arrows, signs, spots, spot):
    """The rows of the odd step at a pair (height, weight)."""
    goals = spots.get((spot[0] + 1, spot[1]), [])
    told = [plain_odd_step(drawing, arrows, signs, state) for state in spots.get(spot, [])]
    return [[row.get(goal, 0) for goal in goals] for row in told]


def plain_odd_rooms(prime, drawing, arrows, chosen=None):
    """The odd rooms by dense rows; of the states chosen alone, if some are."""
    spots, signs = by_spots(drawing), plain_signs(drawing, arrows)
    if chosen is not None:
        spots = {spot: [state for state in spots[spot] if chosen(state)] for spot in spots}
    ranks = {spot: plain_rank(prime, plain_odd_rows(drawing, arrows, signs, spots, spot)) for spot in spots}
    found = {}
    for spot in sorted(spots):
        many = len(spots[spot]) - ranks[spot] - ranks.get((spot[0] - 1, spot[1]), 0)
        if many:
            found[spot] = many
    return found
