"""The leads and the lift of a least paper, kept while pairs of entries are taken out of a chain."""

from ringcubes.cancels import Pool
from ringcubes.spans import inverse


class Trail(Pool):
    """A pool that keeps the way there, the way back and the lift; both ways are told by the entries left."""

    def __init__(self, chain):
        Pool.__init__(self, chain)
        many = len(chain.entries)
        self.there = [{at: {(): 1}} for at in range(many)]
        self.back = [{at: {(): 1}} for at in range(many)]
        self.lift = {}

    def before_cancel(self, lower, upper, starts, goals):
        """Lead what was led to the upper entry, and what comes from the lower one, past them."""
        over = inverse(self.prime, self.led[lower][upper][()])
        middle = self.mates_at(lower)
        arrived, leaving = self.there[upper], self.back[lower]
        for origin in list(arrived):
            begin = self.mates_at(origin)
            for goal in goals:
                sums = (arrived[origin], self.led[lower][goal])
                self.loom.add_behind(self.there[goal], origin, (begin, middle, self.mates_at(goal)), sums, -over)
            for end in list(leaving):
                sums = (arrived[origin], leaving[end])
                self.loom.add_behind(self.lift, (origin, end), (begin, middle, self.mates_at(end)), sums, over)
        for start in starts:
            for end in list(leaving):
                sums = (self.led[start][upper], leaving[end])
                mates = (self.mates_at(start), middle, self.mates_at(end))
                self.loom.add_behind(self.back[start], end, mates, sums, -over)

    def tables(self):
        """The triple of tables: the way there, the way back, the lift."""
        kept = self.left()
        there, back = {}, {}
        for place, index in enumerate(kept):
            for origin in self.there[index]:
                there[(origin, place)] = self.there[index][origin]
            for end in self.back[index]:
                back[(place, end)] = self.back[index][end]
        return there, back, self.lift
