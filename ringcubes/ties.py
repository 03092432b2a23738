"""Two places of a draft joined: what becomes of its entries and of the surfaces of its steps."""

from ringcubes.drafts import Draft
from ringcubes.matchings import sheet_rows
from ringcubes.seams import sheet_of_places, surface_of

# The edges of a cut sheet: indexes of sheets, and these for the rings.
RING_AHEAD = -1
RING_BEHIND = -2


def kept_names(places, one, other):
    """A dict from the places that stay, when two go, to their new indexes."""
    kept = [place for place in range(places) if place not in (one, other)]
    return {place: name for name, place in enumerate(kept)}


def mates_tied(mates, one, other, names):
    """The matching with two places joined."""
    ends = {one: mates[other], other: mates[one]}
    return tuple([names[ends.get(mates[place], mates[place])] for place in names])


class Tie:
    """What joining two places makes of the sheets from one matching to another one.

    Outcomes are triples (ahead, behind, dots): ahead and behind are 1 if the ring there is taken with the
    mark 1, and 0 if it has the mark -1 or if there is no ring.
    """

    def __init__(self, mates, behind, one, other, names):
        old = sheet_rows(mates, behind)
        index_at = sheet_of_places(sheet_rows(mates_tied(mates, one, other, names),
                                              mates_tied(behind, one, other, names)))
        self.met = [at for at, sheet in enumerate(old) if one in sheet or other in sheet]
        self.goals = {at: index_at[names[sheet[0]]] for at, sheet in enumerate(old) if at not in self.met}
        places = [place for at in self.met for place in old[at] if place in names]
        self.fresh = sorted({index_at[names[place]] for place in places})
        self.edges = list(self.fresh)
        if mates[one] == other:
            self.edges.append(RING_AHEAD)
        if behind[one] == other:
            self.edges.append(RING_BEHIND)

    def outcomes(self, dots):
        """The list of outcomes of the surface with these dots, each once."""
        rest = [self.goals[at] for at in dots if at in self.goals]
        many = len(dots) - len(rest)
        if len(self.met) == 2:
            if many == 2:
                return []
            return [(0, 0, tuple(sorted(rest + self.fresh * many)))]
        if many == 1:
            return [self.outcome(rest, None)]
        return [self.outcome(rest, bare) for bare in self.edges]

    def outcome(self, rest, bare):
        """What comes of a cut sheet if all its edges but bare are given dots."""
        ahead = 1 if RING_AHEAD in self.edges and bare != RING_AHEAD else 0
        behind = 1 if bare == RING_BEHIND else 0
        return ahead, behind, tuple(sorted(rest + [at for at in self.fresh if at != bare]))


def tied_entries(draft, one, other, names):
    """The entries with two places joined, and for each old one the index of the first of what it becomes."""
    entries = []
    firsts = []
    for height, weight, mates in draft.entries:
        firsts.append(len(entries))
        told = mates_tied(mates, one, other, names)
        if mates[one] == other:
            entries.extend([(height, weight - 1, told), (height, weight + 1, told)])
        else:
            entries.append((height, weight, told))
    return entries, firsts


def tied(draft, one, other):
    """The draft with two places joined."""
    names = kept_names(draft.places, one, other)
    entries, firsts = tied_entries(draft, one, other, names)
    known = {}
    steps = []
    for i, j, surface in draft.steps:
        pair = (draft.entries[i][2], draft.entries[j][2])
        if pair not in known:
            known[pair] = Tie(pair[0], pair[1], one, other, names)
        totals = {}
        for dots, number in surface:
            for ahead, behind, told in known[pair].outcomes(dots):
                total = totals.setdefault((firsts[i] + ahead, firsts[j] + behind), {})
                total[told] = total.get(told, 0) + number
        for here, there in totals:
            step = (here, there, surface_of(draft.prime, totals[(here, there)]))
            if step[2]:
                steps.append(step)
    return Draft(draft.prime, draft.places - 2, entries, steps)
