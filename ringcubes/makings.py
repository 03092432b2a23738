"""Drawings made of two drawings, and what is told of them by the parts."""

from math import gcd

from ringcubes.drawings import checked_drawing, need_arc, need_drawing
from ringcubes.ends import into_spots
from ringcubes.errors import BadTable
from ringcubes.kinds import ascending, is_number, is_spot
from ringcubes.rooms import need_whole
from ringcubes.spans import divisor_chain


def names_beside(one, other):
    """A dict from the arcs of other to their names beside one: new ones for arcs of both."""
    used = {arc: True for arc in one.arcs + other.arcs}
    names = {}
    for arc in other.arcs:
        names[arc] = arc
        if arc in one.arcs:
            names[arc] = [name for name in range(len(used) + 1) if name not in used][0]
            used[names[arc]] = True
    return names


def rows_beside(one, other):
    """The crossings of one, then those of other with their names beside one."""
    names = names_beside(one, other)
    rows = [tuple(crossing) for crossing in one.crossings]
    for crossing in other.crossings:
        rows.append((crossing[0],) + tuple([names[arc] for arc in crossing[1:]]))
    return rows


def side_by_side(one, other):
    """The drawing of both drawings side by side."""
    need_drawing(one)
    need_drawing(other)
    return checked_drawing(rows_beside(one, other), one.rings + other.rings)


def joined_at(one, arc, other, mate):
    """The drawing of both side by side, their strands going over into one another at two arcs."""
    need_drawing(one)
    need_drawing(other)
    need_arc(one, arc)
    need_arc(other, mate)
    rows = [list(crossing) for crossing in rows_beside(one, other)]
    name = names_beside(one, other)[mate]
    into = into_spots(rows)
    index, slot = into[arc]
    far_index, far_slot = into[name]
    rows[index][slot] = name
    rows[far_index][far_slot] = arc
    return checked_drawing(rows, one.rings + other.rings)


def need_told(told):
    """Raise BadTable unless told is a dict from pairs of numbers to numbers from 1 on."""
    if not isinstance(told, dict):
        raise BadTable("no dict")
    if not all([is_spot(spot) and is_number(told[spot]) and told[spot] > 0 for spot in told]):
        raise BadTable("no dict from pairs of numbers to numbers from 1 on")


def rooms_product(first, second):
    """The rooms over a prime of two drawings side by side, told by the rooms of both."""
    need_told(first)
    need_told(second)
    found = {}
    for i, j in first:
        for a, b in second:
            spot = (i + a, j + b)
            found[spot] = found.get(spot, 0) + first[(i, j)] * second[(a, b)]
    return ascending(found)


def add_part(found, spot, free, twists):
    """Add what is free and a list of twists to what is found at a spot."""
    free_there, twists_there = found.get(spot, (0, []))
    found[spot] = (free_there + free, twists_there + twists)


def part_product(found, spot, one, other):
    """Add the product of two pairs (free, twists) to what is found at a spot and a height below."""
    free, twists = one
    free_there, twists_there = other
    common = [gcd(twist, mate) for twist in twists for mate in twists_there]
    kept = list(twists) * free_there + list(twists_there) * free
    add_part(found, spot, free * free_there, kept + common)
    add_part(found, (spot[0] - 1, spot[1]), 0, common)


def chained(found):
    """The ascending dict of pairs (free, twists), twists each dividing the next one; what is nothing left out."""
    told = {spot: (found[spot][0], divisor_chain(found[spot][1])) for spot in sorted(found)}
    return {spot: told[spot] for spot in told if told[spot] != (0, ())}


def whole_product(first, second):
    """The whole rooms of two drawings side by side, told by the whole rooms of both."""
    need_whole(first)
    need_whole(second)
    found = {}
    for i, j in first:
        for a, b in second:
            part_product(found, (i + a, j + b), first[(i, j)], second[(a, b)])
    return chained(found)


def mirrored_whole(whole):
    """The whole rooms of the mirrored drawing, told by those of the drawing."""
    need_whole(whole)
    found = {}
    for height, weight in whole:
        free, twists = whole[(height, weight)]
        add_part(found, (-height, -weight), free, [])
        add_part(found, (1 - height, -weight), 0, list(twists))
    return chained(found)
