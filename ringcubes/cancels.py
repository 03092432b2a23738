"""Plain parts of steps taken out of a draft, one after the other, each with the two entries that it joins.

What goes through both entries is then told by new steps. Sums of surfaces are dicts from dots to numbers.
"""

from ringcubes.drafts import Draft
from ringcubes.looms import Loom
from ringcubes.seams import surface_of
from ringcubes.spans import inverse


class Pool:
    """Entries and steps of a draft, of which pairs of entries are taken out."""

    def __init__(self, draft):
        self.prime = draft.prime
        self.places = draft.places
        self.entries = draft.entries
        self.loom = Loom(draft.prime)
        self.led = [{} for _ in draft.entries]
        self.met = [{} for _ in draft.entries]
        self.gone = {}
        for i, j, surface in draft.steps:
            self.led[i][j] = {dots: number for dots, number in surface}
            self.met[j][i] = True

    def mates_at(self, index):
        """The matching of an entry."""
        return self.entries[index][2]

    def plain_goals(self, index):
        """The list of the entries to which plain parts lead an entry."""
        row = self.led[index]
        return [goal for goal in row if () in row[goal] and self.mates_at(goal) == self.mates_at(index)]

    def before_cancel(self, lower, upper, starts, goals):
        """What else is to be done before two entries are taken out: nothing here."""

    def cancel(self, lower, upper):
        """Take out two entries that a plain part joins; tells the entries from which new steps may begin."""
        times = -inverse(self.prime, self.led[lower][upper][()])
        starts = [start for start in self.met[upper] if start != lower]
        goals = [goal for goal in self.led[lower] if goal != upper]
        self.before_cancel(lower, upper, starts, goals)
        for start in starts:
            row = self.led[start]
            for goal in goals:
                mates = (self.mates_at(start), self.mates_at(lower), self.mates_at(goal))
                self.loom.add_behind(row, goal, mates, (row[upper], self.led[lower][goal]), times)
                if goal in row:
                    self.met[goal][start] = True
                else:
                    self.met[goal].pop(start, None)
        self.take_out(lower)
        self.take_out(upper)
        return starts

    def take_out(self, index):
        """Take out an entry with all its steps."""
        for goal in self.led[index]:
            del self.met[goal][index]
        for start in self.met[index]:
            del self.led[start][index]
        self.led[index] = {}
        self.met[index] = {}
        self.gone[index] = True

    def shrink_within(self, todo, most):
        """Take out pairs of entries that make at most so many new steps; tells the lower ones of others."""
        rest = []
        while todo:
            lower = todo.pop()
            goals = self.plain_goals(lower)
            if goals:
                upper = min([(len(self.met[goal]), goal) for goal in goals])[1]
                if (len(self.met[upper]) - 1) * (len(self.led[lower]) - 1) <= most:
                    todo.extend(self.cancel(lower, upper))
                else:
                    rest.append(lower)
        return rest

    def shrink(self):
        """Take out pairs of entries till no plain part is left: first those that make few new steps."""
        todo = list(range(len(self.entries)))
        most = 0
        while todo:
            todo = self.shrink_within(todo, most)
            most = 2 * most + 1

    def left(self):
        """The list of the indexes of the entries that are left."""
        return [index for index in range(len(self.entries)) if index not in self.gone]

    def draft(self):
        """The draft of what is left."""
        kept = self.left()
        place_of = {index: place for place, index in enumerate(kept)}
        steps = []
        for index in kept:
            row = self.led[index]
            for goal in row:
                steps.append((place_of[index], place_of[goal], surface_of(self.prime, row[goal])))
        return Draft(self.prime, self.places, [self.entries[index] for index in kept], steps)


def shrunk_draft(draft):
    """A draft without plain parts that leaves the same."""
    pool = Pool(draft)
    pool.shrink()
    return pool.draft()
