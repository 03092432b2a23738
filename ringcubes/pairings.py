"""What the step by a rule leaves, and at which weights: states that stay alone, and pairs of states.

States stand in the sequence of their weights, greater ones first, since the step by a rule never lowers the
weight. If some sum of a state and of such ahead of it is led to 0, something is born with this state. If not,
it makes a sum that those ahead of it do not make, and what was born with the last state of this sum
is no more: both states are a pair. What is never made stays.
"""

from math import comb

from ringcubes.drawings import Drawing
from ringcubes.rulesteps import RuleCube
from ringcubes.spans import Span


class Pairing:
    """The pairs of states of a cube, found height by height."""

    def __init__(self, cube):
        self.cube = cube
        self.layers = {}
        for state in cube.all_states():
            height, weight = cube.spot_of(state)
            self.layers.setdefault(height, []).append((-weight, state))
        for height in list(self.layers):
            self.layers[height] = sorted(self.layers[height])
        self.height = min(list(self.layers))
        self.made = Span(cube.prime)
        self.alone = []
        self.pairs = []

    def is_over(self):
        """Whether no states are left."""
        return self.height not in self.layers

    def numbers(self, height):
        """A dict from the states of a height to their places in the sequence."""
        return {state: at for at, (_, state) in enumerate(self.layers.get(height, []))}

    def weight_at(self, height, place):
        """The weight of the state at a place in the sequence of its height."""
        return -self.layers[height][place][0]

    def row_of(self, told, numbers):
        """A sum of states as a row."""
        return {numbers[state]: told[state] for state in told}

    def climb(self):
        """Go through the states of a height: made is then what they are led to."""
        born = self.made.lead_of
        goals = self.numbers(self.height + 1)
        self.made = Span(self.cube.prime)
        for at, (less, state) in enumerate(self.layers[self.height]):
            # Something was born with it that is made one height below: so it is led to nothing new.
            if at in born:
                continue
            row = self.made.cleared(self.row_of(self.cube.step_from(state), goals))
            if self.made.keep(row):
                weight = self.weight_at(self.height + 1, self.made.lead_columns[-1])
                self.pairs.append((self.height + 1, weight, (weight + less) // 2))
            else:
                self.alone.append((self.height, -less))
        self.height += 1


def bare_cube(prime, rule, drawing):
    """The cube of the drawing without its rings beside."""
    return RuleCube(prime, rule, Drawing(drawing.crossings, 0))


def shifts_beside(rings):
    """The pairs (weight, many): how often the marks of rings beside have each sum."""
    return [(2 * ups - rings, comb(rings, ups)) for ups in range(rings + 1)]


def counted(found, rings):
    """A dict from tuples (height, weight, ..) to how often they come, rings beside added."""
    told = {}
    for row in found:
        for shift, many in shifts_beside(rings):
            key = (row[0], row[1] + shift) + row[2:]
            told[key] = told.get(key, 0) + many
    return told


def paired(prime, rule, drawing):
    """Two dicts: from pairs (height, weight) to how many states stay alone there; and from triples.

    A triple (height, weight, length) is of what is born there and made of a weight less by twice the length;
    lengths are from 1 on.
    """
    pairing = Pairing(bare_cube(prime, rule, drawing))
    while not pairing.is_over():
        pairing.climb()
    long_pairs = [pair for pair in pairing.pairs if pair[2] > 0]
    return counted(pairing.alone, drawing.rings), counted(long_pairs, drawing.rings)
