"""Other rules by which marks are joined and split."""

from ringcubes.errors import BadState
from ringcubes.kinds import ascending, need_prime
from ringcubes.rulesteps import RuleCube, need_rule, need_ruled

KINDS = ("none", "double", "two")


def rule_step(prime, rule, drawing, state):
    """The ascending dict from states to how often the step by a rule leads a state there."""
    need_ruled(prime, rule, drawing)
    cube = RuleCube(prime, rule, drawing)
    if not cube.has_state(state):
        raise BadState("no state of the drawing")
    return ascending(cube.step_from(state))


def rule_kind(prime, rule):
    """The kind of a rule: by how many numbers x the prime divides x * x - h * x - t."""
    need_prime(prime)
    need_rule(rule)
    h, t = rule
    return KINDS[len([x for x in range(prime) if (x * x - h * x - t) % prime == 0])]
