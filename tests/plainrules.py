"""Other rules by the words of the document, done slowly and plainly, and drawings to try them on."""

from ringcubes.braids import closed_braid
from ringcubes.drawings import Drawing
from ringcubes.views import way_turned
from tests.samples import (BORROMEAN, EIGHT, HANDS, HOPF, KINK, KINK_BACK, LEFT, LOOSE, MIXED, NOT_BY_TURNS, NOTHING,
                           RING, RINGS, TREFOIL, plain_rank, plain_rings, plain_spot, plain_states)

RULES = ((0, 0), (1, 0), (0, 1), (0, 2), (1, 1), (2, -1), (-4, 7))
NO_RULES = (None, True, 0, "00", (), (0,), (0, 0, 0), [0, 0], (True, 0), (0, False), (0, None), ("0", 0), (0.0, 0),
            {}, {0: 0}, ((0, 0),))
FEW = (NOTHING, RING, RINGS, KINK, KINK_BACK, HOPF, TREFOIL, LEFT, EIGHT, LOOSE, MIXED, way_turned(HOPF, 0),
       closed_braid(2, [1, -1, 1]), Drawing(HOPF.crossings, 1))
MORE = FEW + (BORROMEAN, HANDS, NOT_BY_TURNS, way_turned(HANDS, 1), way_turned(BORROMEAN, 0),
              closed_braid(3, [1, 1, 1, -2, -2]), closed_braid(4, [1, 1, 3, 3, 2]), closed_braid(5, [1, 1, 3, -3, 3]),
              closed_braid(3, [1, 2, 1, 2, 1, 2, 1, 2]), Drawing(closed_braid(2, [-1, -1, -1]).crossings, 2))


def joined_marks(rule, one, other):
    """What two marks that are joined become: pairs (mark, number)."""
    if (one, other) == (-1, -1):
        return [(-1, rule[0]), (1, rule[1])]
    return [(min(one, other), 1)]


def split_mark(rule, mark):
    """What a mark that is split becomes: pairs (two marks, number)."""
    if mark == 1:
        return [((1, -1), 1), ((-1, 1), 1), ((1, 1), -rule[0])]
    return [((-1, -1), 1), ((1, 1), rule[1])]


def plain_rule_step(prime, rule, drawing, state):
    """The sum to which the step by a rule leads a state, ascending; rings are told by their arcs."""
    choice, marks = state
    ahead = plain_rings(drawing, choice)
    told = {}
    for index, bit in enumerate(choice):
        if bit == 1:
            continue
        next_choice = choice[:index] + (1,) + choice[index + 1:]
        behind = plain_rings(drawing, next_choice)
        gone = [ring for ring in ahead if ring not in behind]
        come = [ring for ring in behind if ring not in ahead]
        own = [mark for ring, mark in zip(ahead, marks) if ring in gone]
        if len(gone) == 2:
            results = [((mark,), number) for mark, number in joined_marks(rule, *own)]
        else:
            results = split_mark(rule, own[0])
        for fresh, number in results:
            mark_of = dict(zip(ahead, marks))
            mark_of.update(zip(come, fresh))
            row = marks[:drawing.rings] + tuple(mark_of[ring] for ring in behind[drawing.rings:])
            goal = (next_choice, row)
            told[goal] = (told.get(goal, 0) + (-1) ** sum(choice[:index]) * number) % prime
    return {goal: told[goal] for goal in sorted(told) if told[goal]}


def by_heights(drawing):
    """A dict from heights to the lists of pairs (weight, state) there."""
    found = {}
    for state in plain_states(drawing):
        height, weight = plain_spot(drawing, state)
        found.setdefault(height, []).append((weight, state))
    return found


def led_rows(prime, rule, drawing, here, goals):
    """The rows of the step by a rule from states to goals."""
    told = [plain_rule_step(prime, rule, drawing, state) for state in here]
    return [[row.get(goal, 0) for goal in goals] for row in told]


def nothing_sums(prime, rows, many):
    """A basis of the sums of so many things that rows lead to 0 modulo a prime."""
    rows = [list(row) + [int(at == to) for to in range(many)] for at, row in enumerate(rows)]
    wide = len(rows[0]) - many if rows else 0
    done = 0
    for column in range(wide):
        lead = next((row for row in rows[done:] if row[column] % prime), None)
        if lead is None:
            continue
        rows = rows[:done] + [lead] + [row for row in rows[done:] if row is not lead]
        over = pow(lead[column], -1, prime)
        for at in range(done + 1, len(rows)):
            times = rows[at][column] * over % prime
            if times:
                rows[at] = [(a - times * b) % prime for a, b in zip(rows[at], lead)]
        done += 1
    return [row[wide:] for row in rows[done:]]


def plain_parts(prime, rule, drawing):
    """A dict from pairs (height, weight) to the part there, by the words of the document; and the least weights."""
    heights = by_heights(drawing)
    parts = {}
    for height, pairs in heights.items():
        here = [state for _, state in pairs]
        goals = [state for _, state in heights.get(height + 1, [])]
        below = [state for _, state in heights.get(height - 1, [])]
        made = led_rows(prime, rule, drawing, below, here)
        rank = plain_rank(prime, made)
        weights = sorted({weight for weight, _ in pairs})
        for least in range(weights[0] - 1, weights[-1] + 3):
            kept = [state for weight, state in pairs if weight >= least]
            sums = nothing_sums(prime, led_rows(prime, rule, drawing, kept, goals), len(kept))
            rows = []
            for row in sums:
                number_of = dict(zip(kept, row))
                rows.append([number_of.get(state, 0) for state in here])
            parts[(height, least)] = plain_rank(prime, made + rows) - rank
    return parts


def plain_spread(prime, rule, drawing):
    """The spread by the words of the document."""
    parts = plain_parts(prime, rule, drawing)
    found = {}
    for height, least in sorted(parts):
        many = parts[(height, least)] - parts.get((height, least + 1), 0)
        if many:
            found[(height, least)] = many
    return found


def plain_left(prime, rule, drawing):
    """What is left at each height, by the words of the document."""
    heights = by_heights(drawing)
    ranks, found = {}, {}
    for height in sorted(heights):
        here = [state for _, state in heights[height]]
        goals = [state for _, state in heights.get(height + 1, [])]
        ranks[height] = plain_rank(prime, led_rows(prime, rule, drawing, here, goals))
        many = len(here) - ranks[height] - ranks.get(height - 1, 0)
        if many:
            found[height] = many
    return found
