"""Bounds of the number s, by the rings of the own choice."""

from ringcubes.drawings import need_drawing, way_count
from ringcubes.ends import lots
from ringcubes.errors import NotOne
from ringcubes.owns import own_rings, own_ties


def need_one_way(drawing):
    """Raise NotOne unless there is just one way, or ring."""
    if way_count(drawing) != 1:
        raise NotOne("not just one way")


def lots_tied(drawing, sign):
    """How many lots of rings hang together by crossings of this sign."""
    ties = [tie for crossing, tie in zip(drawing.crossings, own_ties(drawing)) if crossing[0] == sign]
    return len(lots(list(range(len(own_rings(drawing)))), ties))


def ring_bounds(drawing):
    """The pair (low, high) between which the number s is."""
    need_drawing(drawing)
    need_one_way(drawing)
    signs = drawing.plus - drawing.minus
    many = len(own_rings(drawing))
    return signs - many + 2 * lots_tied(drawing, 1) - 1, signs + many - 2 * lots_tied(drawing, -1) + 1
