"""Chains in the making: entries and steps put together, before anything is judged.

A draft has the attributes of a Chain; what is told here takes either. Places may be any number of
them, joined in any sequence: what is limited, or has to lie in a disc, is so only at the end.
"""

from ringcubes.matchings import sheet_rows
from ringcubes.seams import sheet_of_places, surface_of


class Draft:
    """Entries and steps over a prime, not judged."""

    def __init__(self, prime, places, entries, steps):
        self.prime = prime
        self.places = places
        self.entries = entries
        self.steps = steps


def mates_beside(mates, more):
    """Two matchings side by side."""
    return mates + tuple([mate + len(mates) for mate in more])


def times_surface(prime, surface, times):
    """The surface with all numbers multiplied by what the prime does not divide."""
    return tuple([(dots, number * times % prime) for dots, number in surface])


def dots_shifted(surface, shift):
    """The surface with all indexes of sheets greater by shift."""
    return tuple([(tuple([sheet + shift for sheet in dots]), number) for dots, number in surface])


def beside(one, other):
    """The draft of each entry of one with each of other, these faster."""
    wide = len(other.entries)
    entries = []
    steps = []
    for height, weight, mates in one.entries:
        base = len(entries)
        for more_height, more_weight, more_mates in other.entries:
            entries.append((height + more_height, weight + more_weight, mates_beside(mates, more_mates)))
        sign = 1 - 2 * (height % 2)
        for k, j, surface in other.steps:
            shifted = dots_shifted(surface, one.places // 2)
            steps.append((base + k, base + j, times_surface(one.prime, shifted, sign)))
    for i, j, surface in one.steps:
        # The plain sheets of other's matching stand behind all others.
        steps.extend([(i * wide + k, j * wide + k, surface) for k in range(wide)])
    return Draft(one.prime, one.places + other.places, entries, steps)


def sheets_led(one, other, one_behind, other_behind, names):
    """For each sheet of two matchings the index of that of two others with its places; names tell where these go."""
    index_at = sheet_of_places(sheet_rows(one_behind, other_behind))
    return [index_at[names[sheet[0]]] for sheet in sheet_rows(one, other)]


def mates_turned(mates, many):
    """The matching with the place many first."""
    wide = len(mates)
    return tuple([(mates[(place + many) % wide] - many) % wide for place in range(wide)])


def turned(draft, many):
    """The draft with the place many, modulo their number, first."""
    wide = draft.places
    names = [(place - many) % wide for place in range(wide)]
    entries = [(height, weight, mates_turned(mates, many)) for height, weight, mates in draft.entries]
    goals = {}
    steps = []
    for i, j, surface in draft.steps:
        one, other = draft.entries[i][2], draft.entries[j][2]
        if (one, other) not in goals:
            goals[(one, other)] = sheets_led(one, other, entries[i][2], entries[j][2], names)
        row = goals[(one, other)]
        total = {tuple(sorted([row[sheet] for sheet in dots])): number for dots, number in surface}
        steps.append((i, j, surface_of(draft.prime, total)))
    return Draft(draft.prime, wide, entries, steps)


def mirrored_draft(draft):
    """The draft with heights and weights negated and all steps going back."""
    entries = [(-height, -weight, mates) for height, weight, mates in draft.entries]
    return Draft(draft.prime, draft.places, entries, [(j, i, surface) for i, j, surface in draft.steps])
