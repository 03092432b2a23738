"""What the step by a rule leaves, by heights and weights."""

from ringcubes.drawings import need_cube
from ringcubes.kinds import ascending
from ringcubes.pairings import paired
from ringcubes.rulesteps import need_ruled


def spread(prime, rule, drawing):
    """The ascending dict from pairs (height, weight) to how much of what is left has just this least weight."""
    need_ruled(prime, rule, drawing)
    need_cube(drawing)
    alone, _ = paired(prime, rule, drawing)
    return ascending(alone)
