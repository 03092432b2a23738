"""What comes of a drawing when each crossing is smoothed, and what one choice more changes."""

from ringcubes.drawings import need_drawing
from ringcubes.ends import OVER_IN, OVER_OUT, UNDER_IN, UNDER_OUT, lots
from ringcubes.errors import BadChoice, BadCrossing
from ringcubes.kinds import is_between, is_index, is_row


def is_choice(drawing, thing):
    """Whether thing is a choice of the drawing."""
    return is_row(thing, len(drawing.crossings)) and all([is_between(bit, 0, 1) for bit in thing])


def need_choice(drawing, choice):
    """Raise BadChoice unless choice is a choice of the drawing."""
    if not is_choice(drawing, choice):
        raise BadChoice("no tuple of a 0 or 1 for each crossing")


def keeps_directions(crossing, bit):
    """Whether this choice at the crossing keeps the directions of its strands."""
    return bit == (1 - crossing[0]) // 2


def joined_slots(crossing, bit):
    """The two pairs of slots that this choice joins at the crossing, that of under_in first."""
    if keeps_directions(crossing, bit):
        return (UNDER_IN, OVER_OUT), (OVER_IN, UNDER_OUT)
    return (UNDER_IN, OVER_IN), (UNDER_OUT, OVER_OUT)


def joined_arcs(crossing, bit):
    """The two pairs of arcs that this choice joins at the crossing, that of under_in first."""
    return [(crossing[one], crossing[other]) for one, other in joined_slots(crossing, bit)]


def ring_rows(drawing, choice):
    """The rings that come of a choice, ascending."""
    pairs = []
    for crossing, bit in zip(drawing.crossings, choice):
        pairs.extend(joined_arcs(crossing, bit))
    return [() for _ in range(drawing.rings)] + lots(drawing.arcs, pairs)


def smoothed(drawing, choice):
    """The ascending list of the rings that come of a choice."""
    need_drawing(drawing)
    need_choice(drawing, choice)
    return ring_rows(drawing, choice)


def ring_indexes(rows):
    """A dict from each arc to the index of its ring."""
    return {arc: index for index, ring in enumerate(rows) for arc in ring}


def raised(choice, crossing):
    """The choice with 1 at this crossing."""
    return choice[:crossing] + (1,) + choice[crossing + 1:]


def edge_told(crossing, ahead, behind):
    """The edge at a crossing, where ahead and behind lead arcs to the indexes of their rings."""
    one, other = sorted([ahead[pair[0]] for pair in joined_arcs(crossing, 0)])
    left, right = sorted([behind[pair[0]] for pair in joined_arcs(crossing, 1)])
    if one != other:
        return "join", (one, other, left)
    return "split", (one, left, right)


def edge(drawing, choice, crossing):
    """How the rings change if this crossing is smoothed by choice 1 instead of 0."""
    need_drawing(drawing)
    need_choice(drawing, choice)
    if not is_index(crossing, len(drawing.crossings)) or choice[crossing] != 0:
        raise BadCrossing("no index of a crossing with choice 0")
    ahead = ring_indexes(ring_rows(drawing, choice))
    behind = ring_indexes(ring_rows(drawing, raised(choice, crossing)))
    return edge_told(drawing.crossings[crossing], ahead, behind)
