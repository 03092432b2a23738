"""Webs: what dark faces and crossings make, and the alternate drawings that are woven of webs."""

from ringcubes.drawings import MOST_CROSSINGS, MOST_RINGS, Drawing, need_drawing
from ringcubes.ends import is_plane, star_of
from ringcubes.errors import BadWeb, TooMany
from ringcubes.faces import shades
from ringcubes.kinds import is_list, is_number


def web_rows(drawing):
    """The nodes of a drawing: () for each ring beside, then the crossings of each dark face."""
    need_drawing(drawing)
    rows = [() for _ in range(drawing.rings)]
    for face in shades(drawing):
        rows.append(tuple([index for index, _ in face]))
    return tuple(rows)


def is_web(rows):
    """Whether rows is a list of lists in which each number from 0 on to some one comes just twice."""
    if not is_list(rows) or not all([is_list(node) for node in rows]):
        return False
    numbers = [number for node in rows for number in node]
    if not all([is_number(number) for number in numbers]):
        return False
    return sorted(numbers) == [at // 2 for at in range(len(numbers))] and len(numbers) % 2 == 0


class Weave:
    """The spots of a web: which one comes next in its node, which one ahead, and which one is of the same edge."""

    def __init__(self, rows):
        self.pairs = {}
        self.following = {}
        self.leading = {}
        first = 0
        for node in rows:
            for at, number in enumerate(node):
                behind = first + (at + 1) % len(node)
                self.following[first + at] = behind
                self.leading[behind] = first + at
                self.pairs.setdefault(number, []).append(first + at)
            first += len(node)
        self.mates = {}
        for one, other in self.pairs.values():
            self.mates[one] = other
            self.mates[other] = one

    def forward_arcs(self):
        """A dict from each arc to whether it goes from its end o to its end u."""
        forward = {}
        for start in range(len(self.mates)):
            arc = start
            while arc not in forward:
                forward[arc] = True
                back = self.leading[self.mates[self.following[arc]]]
                forward[back] = False
                arc = self.mates[back]
        return forward

    def crossing_of(self, edge, forward):
        """The crossing of an edge."""
        one, other = self.pairs[edge]
        if not forward[self.leading[one]]:
            one, other = other, one
        under = (self.leading[one], self.leading[other])
        # Now the strand beneath comes in at the end u of one; its end o is the next one to the left.
        if forward[one]:
            return (1,) + under + (other, one)
        return (-1,) + under + (one, other)


def woven(rows):
    """The alternate drawing that is woven of a web."""
    if not is_web(rows):
        raise BadWeb("not each number from 0 on comes just twice in lists")
    weave = Weave(rows)
    if len(weave.pairs) > MOST_CROSSINGS:
        raise TooMany(MOST_CROSSINGS)
    rings = len([node for node in rows if not node])
    if rings > MOST_RINGS:
        raise TooMany(MOST_RINGS)
    forward = weave.forward_arcs()
    crossings = [weave.crossing_of(edge, forward) for edge in range(len(weave.pairs))]
    if not is_plane([star_of(crossing) for crossing in crossings]):
        raise BadWeb("the web does not lie in the plane")
    return Drawing(crossings, rings)
