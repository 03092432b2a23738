"""Maps from one chain to another one, and what steps leave of them."""

from ringcubes.cancels import shrunk_draft
from ringcubes.errors import BadChain
from ringcubes.layers import rooms_left
from ringcubes.leasts import need_chain
from ringcubes.looms import Loom
from ringcubes.steps import rows_over


def rows_by(steps, at):
    """A dict from the index at which steps begin (0) or end (1) to the list of these steps."""
    table = {}
    for step in steps:
        table.setdefault(step[at], []).append(step)
    return table


class Between:
    """All dots from entries of one draft to entries of another one, as states (i, j, dots)."""

    def __init__(self, one, other):
        self.one = one
        self.other = other
        self.loom = Loom(one.prime)
        self.steps_to = rows_by(one.steps, 1)
        self.steps_from = rows_by(other.steps, 0)

    def sheet_count(self, i, j):
        """How many sheets there are from an entry of one to an entry of other."""
        return self.loom.seams.sheet_count(self.one.entries[i][2], self.other.entries[j][2])

    def all_states(self):
        """The list of all states."""
        found = []
        for i in range(len(self.one.entries)):
            for j in range(len(self.other.entries)):
                for bits in rows_over((0, 1), self.sheet_count(i, j)):
                    found.append((i, j, tuple([sheet for sheet, bit in enumerate(bits) if bit == 1])))
        return found

    def spot_of(self, state):
        """The pair (height, weight) of a state."""
        i, j, dots = state
        here, there = self.one.entries[i], self.other.entries[j]
        level = self.one.places // 2 - self.sheet_count(i, j) + 2 * len(dots)
        return there[0] - here[0], there[1] - here[1] - level

    def step_from(self, state):
        """The sum of states to which a state is led: itself, then steps of other, and steps of one, then itself."""
        i, j, dots = state
        sign = 1 - 2 * (self.spot_of(state)[0] % 2)
        here, there = self.one.entries[i][2], self.other.entries[j][2]
        told = {}
        for _, k, surface in self.steps_from.get(j, []):
            seam = self.loom.seams.seam(here, there, self.other.entries[k][2])
            for more, number in surface:
                for row, factor in seam.given(dots, more):
                    self.loom.add_number(told, (i, k, row), number * factor)
        for k, _, surface in self.steps_to.get(i, []):
            seam = self.loom.seams.seam(self.one.entries[k][2], here, there)
            for more, number in surface:
                for row, factor in seam.given(more, dots):
                    self.loom.add_number(told, (k, j, row), -sign * number * factor)
        return told


def maps_between(one, other):
    """The ascending dict from pairs (height, weight) to how many maps steps leave there."""
    need_chain(one)
    need_chain(other)
    if one.prime != other.prime or one.places != other.places:
        raise BadChain("fit")
    # Small chains have the same maps between them, and far fewer entries.
    between = Between(shrunk_draft(one), shrunk_draft(other))
    return rooms_left(one.prime, between, between.all_states(), 0)
