"""Drawings seen otherwise: mirrored, turned, with other names and sequences."""

from ringcubes.drawings import Drawing, need_drawing, ways
from ringcubes.ends import exchanged_row, is_arc
from ringcubes.errors import BadOrder, BadTable, BadWay
from ringcubes.kinds import is_index, is_list
from ringcubes.likeness import likeness
from ringcubes.strands import turned_rows


def mirrored(drawing):
    """The drawing with over and under exchanged at each crossing."""
    need_drawing(drawing)
    return Drawing([exchanged_row(crossing) for crossing in drawing.crossings], drawing.rings)


def turned_about(drawing):
    """The drawing with all strands the other way round."""
    need_drawing(drawing)
    return Drawing([(s, b, a, d, c) for s, a, b, c, d in drawing.crossings], drawing.rings)


def way_turned(drawing, index):
    """The drawing with one way the other way round."""
    rows = ways(drawing)
    if not is_index(index, len(rows)):
        raise BadWay("no index of a way")
    return Drawing(turned_rows(drawing.crossings, rows[index]), drawing.rings)


def is_naming(drawing, table):
    """Whether table is a dict from just all arcs to different arcs."""
    if not isinstance(table, dict) or not all([is_arc(arc) for arc in table]):
        return False
    names = list(table.values())
    if not all([is_arc(name) for name in names]):
        return False
    return sorted(table) == list(drawing.arcs) and len(set(names)) == len(names)


def renamed(drawing, table):
    """The drawing with other names of arcs."""
    need_drawing(drawing)
    if not is_naming(drawing, table):
        raise BadTable("no dict from just all arcs to different arcs")
    rows = [(s, table[a], table[b], table[c], table[d]) for s, a, b, c, d in drawing.crossings]
    return Drawing(rows, drawing.rings)


def in_order(drawing, order):
    """The drawing with crossing order[k] in the place k."""
    need_drawing(drawing)
    many = len(drawing.crossings)
    if not is_list(order) or not all([is_index(index, many) for index in order]):
        raise BadOrder("no list of indexes of crossings")
    if sorted(order) != list(range(many)):
        raise BadOrder("not each index of a crossing just once")
    return Drawing([drawing.crossings[index] for index in order], drawing.rings)


def alike(one, other):
    """Whether in_order and renamed lead from one to other."""
    need_drawing(one)
    need_drawing(other)
    return likeness(one, other) is not None
