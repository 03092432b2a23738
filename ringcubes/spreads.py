"""What the step by a rule leaves, by heights and weights."""

from ringcubes.drawings import need_cube, need_drawing
from ringcubes.kinds import ascending, need_prime
from ringcubes.pairings import paired
from ringcubes.rulesteps import need_rule


def spread(prime, rule, drawing):
    """The ascending dict from pairs (height, weight) to how much of what is left has just this least weight."""
    need_prime(prime)
    need_rule(rule)
    need_drawing(drawing)
    need_cube(drawing)
    alone, _ = paired(prime, rule, drawing)
    return ascending(alone)
