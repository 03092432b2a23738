"""What the step by a rule leaves, by heights alone."""

from ringcubes.drawings import need_cube
from ringcubes.kinds import ascending
from ringcubes.pairings import paired
from ringcubes.rulesteps import need_ruled


def rule_left(prime, rule, drawing):
    """The ascending dict from heights to how much the step by a rule leaves there, over a prime."""
    need_ruled(prime, rule, drawing)
    need_cube(drawing)
    alone, _ = paired(prime, rule, drawing)
    found = {}
    for spot in alone:
        found[spot[0]] = found.get(spot[0], 0) + alone[spot]
    return ascending(found)
