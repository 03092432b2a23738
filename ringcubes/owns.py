"""The own choice of a drawing: it keeps the directions of all strands."""

from ringcubes.rings import joined_arcs, ring_indexes, ring_rows


def own_bits(drawing):
    """The choice with 0 at each crossing of sign 1, and 1 at each of sign -1."""
    return tuple([(1 - crossing[0]) // 2 for crossing in drawing.crossings])


def own_rings(drawing):
    """The rings of the own choice."""
    return ring_rows(drawing, own_bits(drawing))


def own_ties(drawing):
    """For each crossing the pair of indexes of the two rings of the own choice that pass it."""
    ring_of = ring_indexes(own_rings(drawing))
    ties = []
    for crossing, bit in zip(drawing.crossings, own_bits(drawing)):
        one, other = joined_arcs(crossing, bit)
        ties.append((ring_of[one[0]], ring_of[other[0]]))
    return ties
