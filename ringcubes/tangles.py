"""Pieces of patches worked out crossing by crossing, with whatever can be taken out taken out at once."""

from ringcubes.cancels import shrunk_draft
from ringcubes.drafts import Draft, beside
from ringcubes.ends import PLACES_JOINED, lots, star_of
from ringcubes.ties import tied


def crossing_draft(prime, sign):
    """The draft of one crossing of this sign, its places those of its ends."""
    height = (sign - 1) // 2
    weight = (3 * sign - 1) // 2
    entries = [(height + bit, weight + bit, mates) for bit, mates in enumerate(PLACES_JOINED)]
    return Draft(prime, 4, entries, [(0, 1, (((), 1),))])


def crossing_arcs(crossing):
    """The arcs of the four ends of a crossing in the sequence of their places."""
    return [arc for arc, _ in star_of(crossing)]


def arcs_open(arcs, more):
    """The arcs that come just once if so many more come."""
    both = arcs + more
    return [arc for arc in both if both.count(arc) == 1]


def order_from(rows, start):
    """A pair (cost, order) of a sequence of the crossings of a piece, start first, that keeps few arcs open."""
    arcs = arcs_open([], rows[start])
    order = [start]
    cost = 1 << len(arcs)
    while len(order) < len(rows):
        rest = [index for index in rows if index not in order]
        best = min([(len(arcs_open(arcs, rows[index])), index) for index in rest])[1]
        arcs = arcs_open(arcs, rows[best])
        order.append(best)
        cost += 1 << len(arcs)
    return cost, order


def quick_order(crossings, piece):
    """A sequence of the crossings of a piece in which few arcs are open at any time."""
    rows = {index: crossing_arcs(crossings[index]) for index in piece}
    return min([order_from(rows, start) for start in piece])[1]


def pair_alike(arcs):
    """The indexes of two equal arcs; None if there are none."""
    for at, arc in enumerate(arcs):
        if arc in arcs[:at]:
            return arcs.index(arc), at
    return None


def piece_draft(prime, crossings, piece):
    """A pair of the draft of a piece, without plain parts, and the list of the arcs of its places."""
    draft = Draft(prime, 0, [(0, 0, ())], [])
    arcs = []
    for index in quick_order(crossings, piece):
        draft = beside(draft, crossing_draft(prime, crossings[index][0]))
        arcs = arcs + crossing_arcs(crossings[index])
        pair = pair_alike(arcs)
        while pair is not None:
            draft = shrunk_draft(tied(draft, pair[0], pair[1]))
            arcs = [arc for at, arc in enumerate(arcs) if at not in pair]
            pair = pair_alike(arcs)
    return draft, arcs


def piece_counts(prime, patch, piece):
    """A dict from triples (height, weight, pairs of places of the rim) to how many such entries a piece leaves."""
    draft, arcs = piece_draft(prime, patch.crossings, piece)
    place_of = {arc: place for place, (arc, _) in enumerate(patch.rim)}
    found = {}
    for height, weight, mates in draft.entries:
        pairs = [(place_of[arcs[at]], place_of[arcs[mate]]) for at, mate in enumerate(mates)]
        key = (height, weight, tuple(pairs))
        found[key] = found.get(key, 0) + 1
    return found


def counts_product(found, more):
    """The numbers of entries of two parts of a patch together."""
    told = {}
    for height, weight, pairs in found:
        for more_height, more_weight, more_pairs in more:
            key = (height + more_height, weight + more_weight, tuple(sorted(pairs + more_pairs)))
            number = found[(height, weight, pairs)] * more[(more_height, more_weight, more_pairs)]
            told[key] = told.get(key, 0) + number
    return told


def strand_pairs(patch):
    """The pairs of places, each both ways round, that strands without crossings join."""
    rim = list(enumerate(patch.rim))
    return [(at, far) for at, (arc, _) in rim for far, (other, _) in rim if at != far and arc == other]


def patch_pieces(crossings):
    """The pieces of the crossings of a patch; those that meet at the rim alone are several ones."""
    rows = [crossing_arcs(crossing) for crossing in crossings]
    first = {}
    pairs = []
    for index, arcs in enumerate(rows):
        pairs.extend([(first[arc], index) for arc in arcs if arc in first])
        first.update({arc: index for arc in arcs})
    return lots(list(range(len(rows))), pairs)


def patch_counts(prime, patch):
    """A dict from entries to how many of them the chain of a patch leaves."""
    found = {(0, 0, tuple(strand_pairs(patch))): 1}
    for _ in range(patch.rings):
        found = counts_product(found, {(0, -1, ()): 1, (0, 1, ()): 1})
    for piece in patch_pieces(patch.crossings):
        found = counts_product(found, piece_counts(prime, patch, piece))
    return {(height, weight, tuple([mate for _, mate in pairs])): found[(height, weight, pairs)]
            for height, weight, pairs in found}
