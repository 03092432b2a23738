"""Rules that come of one another, and the ways between them."""

from ringcubes.errors import BadNumber
from ringcubes.kinds import is_number, need_number, need_prime
from ringcubes.rulesteps import need_rule


def moved(prime, rule, number):
    """The rule of marks -1 to which so many times 1 is added."""
    h, t = rule
    return (h + 2 * number) % prime, (t - h * number - number * number) % prime


def scaled(prime, rule, number):
    """The rule of marks -1 taken so many times."""
    h, t = rule
    return h * number % prime, t * number * number % prime


def moved_rule(prime, rule, number):
    """The rule of marks -1 to which so many times 1 is added, numbers from 0 to prime - 1."""
    need_prime(prime)
    need_rule(rule)
    need_number(number, "number")
    return moved(prime, rule, number)


def scaled_rule(prime, rule, number):
    """The rule of marks -1 taken so many times, numbers from 0 to prime - 1."""
    need_prime(prime)
    need_rule(rule)
    if not is_number(number) or number % prime == 0:
        raise BadNumber("number")
    return scaled(prime, rule, number)


def rule_way(prime, one, other):
    """A pair (scale, shift) by which a rule becomes another one; None if there is none."""
    need_prime(prime)
    need_rule(one)
    need_rule(other)
    goal = moved(prime, other, 0)
    for scale in range(1, prime):
        for shift in range(prime):
            if moved(prime, scaled(prime, one, scale), shift) == goal:
                return scale, shift
    return None
