"""What the step by a rule leaves, by heights alone."""

from ringcubes.drawings import need_cube, need_drawing
from ringcubes.kinds import ascending, need_prime
from ringcubes.pairings import paired
from ringcubes.rulesteps import need_rule


def rule_left(prime, rule, drawing):
    """The ascending dict from heights to how much the step by a rule leaves there, over a prime."""
    need_prime(prime)
    need_rule(rule)
    need_drawing(drawing)
    need_cube(drawing)
    alone, _ = paired(prime, rule, drawing)
    found = {}
    for spot in alone:
        found[spot[0]] = found.get(spot[0], 0) + alone[spot]
    return ascending(found)
