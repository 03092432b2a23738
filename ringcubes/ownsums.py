"""The own sum of a drawing, and the number s, the weight at which it stays."""

from ringcubes.drawings import need_drawing, need_prime_and_cube
from ringcubes.owns import own_bits, own_rings, own_ties
from ringcubes.pairings import Pairing, bare_cube

OWN_RULE = (1, 0)


def own_choice(drawing):
    """The choice that keeps the directions of all strands."""
    need_drawing(drawing)
    return own_bits(drawing)


def own_hues(drawing):
    """The tuple of the hues of the rings of the own choice."""
    need_drawing(drawing)
    beside = {ring: [] for ring in range(len(own_rings(drawing)))}
    for one, other in own_ties(drawing):
        beside[one].append(other)
        beside[other].append(one)
    hues = {}
    # Rings ascend by their least arcs: the first one of a piece has its least arc.
    for first in beside:
        todo = [first]
        if first not in hues:
            hues[first] = 0
        while todo:
            ring = todo.pop()
            for mate in beside[ring]:
                if mate not in hues:
                    hues[mate] = 1 - hues[ring]
                    todo.append(mate)
    return tuple([hues[ring] for ring in beside])


def own_states(prime, drawing):
    """The own sum."""
    choice = own_bits(drawing)
    rows = [((), 1)]
    for hue in own_hues(drawing):
        longer = []
        for marks, number in rows:
            longer.append((marks + (-1,), number if hue == 0 else prime - number))
            if hue == 1:
                longer.append((marks + (1,), number))
        rows = longer
    return {(choice, marks): number for marks, number in rows}


def own_sum(prime, drawing):
    """The ascending dict from states with the own choice to numbers that the rule (1, 0) leads to 0."""
    need_prime_and_cube(prime, drawing)
    return own_states(prime, drawing)


def s_at(prime, drawing):
    """The number s of a drawing of at most ten crossings."""
    cube = bare_cube(prime, OWN_RULE, drawing)
    pairing = Pairing(cube)
    while pairing.height < 0:
        pairing.climb()
    told = pairing.row_of(own_states(prime, cube.drawing), pairing.numbers(0))
    last = max(list(pairing.made.cleared(told)))
    # In the own sum all rings beside have the mark -1, whatever is taken off.
    return pairing.weight_at(0, last) - drawing.rings + 1


def s_number(prime, drawing):
    """One more than the greatest weight from which on all states of the own sum, less what the step makes, are."""
    need_prime_and_cube(prime, drawing)
    return s_at(prime, drawing)
