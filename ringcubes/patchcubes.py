"""The cube of a patch: rings and strands at each choice, and where the step leads states, with what dots."""

from ringcubes.ends import UNDER_IN, lots
from ringcubes.matchings import sheet_rows
from ringcubes.rings import joined_arcs, raised, ring_indexes
from ringcubes.steps import Cube, marks_led, with_one


def mates_told(rim, part_of):
    """The matching of the rim ends whose arcs are of one part."""
    parts = [part_of[arc] for arc, _ in rim]
    mates = []
    for at, part in enumerate(parts):
        mates.append([far for far in range(len(parts)) if far != at and parts[far] == part][0])
    return tuple(mates)


class Picture:
    """What comes of a choice: the rings, those beside first, and the matching that the strands make."""

    def __init__(self, patch, choice):
        pairs = []
        for crossing, bit in zip(patch.crossings, choice):
            pairs.extend(joined_arcs(crossing, bit))
        parts = lots(patch.arcs, pairs)
        part_of = ring_indexes(parts)
        strands = [part_of[arc] for arc, _ in patch.rim]
        self.mates = mates_told(patch.rim, part_of)
        self.rows = [() for _ in range(patch.rings)]
        self.rows.extend([part for at, part in enumerate(parts) if at not in strands])
        self.ring_at = ring_indexes(self.rows)
        sheet_at = ring_indexes(sheet_rows(self.mates, self.mates))
        self.sheet_of = {arc: sheet_at[place] for place, at in enumerate(strands) for arc in parts[at]}

    def rings_met(self, pairs):
        """The ascending list of the indexes of the rings that pairs of joined arcs are of."""
        return sorted({self.ring_at[pair[0]] for pair in pairs if pair[0] in self.ring_at})


class PatchCube(Cube):
    """The choices of a patch; strands are no rings of it."""

    def __init__(self, patch):
        Cube.__init__(self, patch)
        self.pictures = {}

    def picture(self, choice):
        """The picture of a choice."""
        if choice not in self.pictures:
            self.pictures[choice] = Picture(self.drawing, choice)
        return self.pictures[choice]

    def rings_with(self, choice):
        """The rings of a choice, and the dict from arcs to their indexes."""
        picture = self.picture(choice)
        return picture.rows, picture.ring_at

    def entry_of(self, state):
        """The entry of a state: height, weight and matching."""
        height, weight = self.spot_of(state)
        return height, weight, self.picture(state[0]).mates

    def led_along(self, choice, marks, crossing):
        """The list of pairs (marks, dots) to which marks are led if a crossing has choice 1 instead."""
        row = self.drawing.crossings[crossing]
        ahead = self.picture(choice)
        behind = self.picture(raised(choice, crossing))
        here = ahead.rings_met(joined_arcs(row, 0))
        there = behind.rings_met(joined_arcs(row, 1))
        if len(here) + len(there) == 3:
            word = "join" if len(here) == 2 else "split"
            return [(told, ()) for told in marks_led(word, here + there, marks)]
        if here:
            dots = () if marks[here[0]] == 1 else (behind.sheet_of[row[UNDER_IN]],)
            return [(marks[:here[0]] + marks[here[0] + 1:], dots)]
        if there:
            dots = (ahead.sheet_of[row[UNDER_IN]],)
            return [(with_one(marks, there[0], -1), ()), (with_one(marks, there[0], 1), dots)]
        return [(marks, ())]

    def led_from(self, state):
        """The list of triples (state, dots, sign) to which the step leads a state."""
        choice, marks = state
        found = []
        for crossing, bit in enumerate(choice):
            if bit == 0:
                sign = 1 - 2 * (sum(choice[:crossing]) % 2)
                for told, dots in self.led_along(choice, marks, crossing):
                    found.append(((raised(choice, crossing), told), dots, sign))
        return found
