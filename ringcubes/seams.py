"""Surfaces with dots, and how those of two surfaces are glued along a matching."""

from ringcubes.ends import lots
from ringcubes.kinds import are_indexes, is_between, is_row
from ringcubes.matchings import sheet_rows


def is_surface(prime, many, thing):
    """Whether thing is a surface of so many sheets over a prime."""
    if not isinstance(thing, tuple) or not all([is_row(part, 2) for part in thing]):
        return False
    if not all([are_indexes(dots, many) and is_between(number, 1, prime - 1) for dots, number in thing]):
        return False
    return all([less[0] < more[0] for less, more in zip(thing, thing[1:])])


def surface_of(prime, total):
    """The surface of a dict from dots to numbers."""
    return tuple([(dots, total[dots] % prime) for dots in sorted(total) if total[dots] % prime != 0])


def sheet_of_places(rows):
    """A dict from each place to the index of its sheet."""
    return {place: index for index, sheet in enumerate(rows) for place in sheet}


class Lot:
    """Sheets that are glued together, and the sheets at their rim that they leave.

    first, second and outer are the ascending lists of their indexes among all sheets ahead,
    behind and left.
    """

    def __init__(self, first, second, outer, pairs):
        self.first = first
        self.second = second
        self.outer = outer
        self.handles = (2 + pairs - len(first) - len(second) - len(outer)) // 2

    def told(self, first_dots, second_dots):
        """The list of pairs (dots, number) of what both dots give on the sheets left."""
        dots = [at for at in first_dots if at in self.first] + [at for at in second_dots if at in self.second]
        weight = len(dots) + self.handles
        if weight == 0:
            return [(tuple([at for at in self.outer if at != bare]), 1) for bare in self.outer]
        if weight == 1:
            return [(tuple(self.outer), 1 + self.handles)]
        return []


class Seam:
    """How the sheets from one matching to a second one are glued to those from there to a third one."""

    def __init__(self, one, two, three):
        first = sheet_of_places(sheet_rows(one, two))
        second = sheet_of_places(sheet_rows(two, three))
        outer = sheet_of_places(sheet_rows(one, three))
        pairs = list(enumerate(one)) + list(enumerate(two)) + list(enumerate(three))
        self.known = {}
        self.parts = []
        for places in lots(list(range(len(two))), pairs):
            ahead, behind, left = [sorted({table[place] for place in places}) for table in (first, second, outer)]
            self.parts.append(Lot(ahead, behind, left, len(places) // 2))

    def glued(self, first_dots, second_dots):
        """The list of pairs (dots, number) of what the dots of both surfaces give together."""
        rows = [((), 1)]
        for lot in self.parts:
            told = lot.told(first_dots, second_dots)
            rows = [(dots + more, number * times) for dots, number in rows for more, times in told]
        return [(tuple(sorted(dots)), number) for dots, number in rows]

    def given(self, first_dots, second_dots):
        """What glued tells, worked out once."""
        key = (first_dots, second_dots)
        if key not in self.known:
            self.known[key] = self.glued(first_dots, second_dots)
        return self.known[key]

    def add_glued(self, total, first, second):
        """Add two surfaces, glued, to a dict from dots to numbers."""
        for first_dots, number in first:
            for second_dots, more in second:
                for dots, times in self.given(first_dots, second_dots):
                    total[dots] = total.get(dots, 0) + number * more * times


class Seams:
    """The sheets and seams of matchings, each worked out once."""

    def __init__(self):
        self.sheet_counts = {}
        self.seam_table = {}

    def sheet_count(self, one, other):
        """How many sheets there are from one matching to another one."""
        if (one, other) not in self.sheet_counts:
            self.sheet_counts[(one, other)] = len(sheet_rows(one, other))
        return self.sheet_counts[(one, other)]

    def seam(self, one, two, three):
        """The seam of three matchings."""
        key = (one, two, three)
        if key not in self.seam_table:
            self.seam_table[key] = Seam(one, two, three)
        return self.seam_table[key]
