"""The cube of a drawing with the step by another rule, over a prime."""

from ringcubes.drawings import need_drawing
from ringcubes.errors import BadRule
from ringcubes.kinds import is_spot, need_prime
from ringcubes.steps import Cube, with_one, with_two, without_two


def need_rule(rule):
    """Raise BadRule unless rule is a pair of numbers, a tuple."""
    if not is_spot(rule):
        raise BadRule("no pair of numbers")


def need_ruled(prime, rule, drawing):
    """Raise BadPrime, BadRule, then BadDrawing unless all are such."""
    need_prime(prime)
    need_rule(rule)
    need_drawing(drawing)


def times_kept(prime, outcomes):
    """The tuples of a list whose last item, taken modulo the prime, is not 0."""
    return [told[:-1] + (told[-1] % prime,) for told in outcomes if told[-1] % prime != 0]


class RuleCube(Cube):
    """A cube whose step goes by a rule, over a prime."""

    def __init__(self, prime, rule, drawing):
        Cube.__init__(self, drawing)
        h, t = rule
        one_stays = [(-1, 1)]
        self.joins = {(1, 1): [(1, 1)], (1, -1): one_stays, (-1, 1): one_stays,
                      (-1, -1): times_kept(prime, [(-1, h), (1, t)])}
        self.splits = {1: times_kept(prime, [(1, -1, 1), (-1, 1, 1), (1, 1, -h)]),
                       -1: times_kept(prime, [(-1, -1, 1), (1, 1, t)])}
        self.prime = prime

    def led_by_rule(self, word, rings, marks):
        """The list of pairs (marks, times) to which those along an edge are led."""
        if word == "join":
            one, other, index = rings
            rest = without_two(marks, one, other)
            return [(with_one(rest, index, mark), times) for mark, times in self.joins[(marks[one], marks[other])]]
        index, one, other = rings
        rest = marks[:index] + marks[index + 1:]
        return [(with_two(rest, one, mark, other, mate), times) for mark, mate, times in self.splits[marks[index]]]

    def step_from(self, state):
        """The sum of states, numbers from 1 on below the prime, to which the step by the rule leads a state."""
        choice, marks = state
        told = {}
        for sign, behind, word, rings in self.edges_from(choice):
            for row, times in self.led_by_rule(word, rings, marks):
                told[(behind, row)] = sign * times % self.prime
        return told
