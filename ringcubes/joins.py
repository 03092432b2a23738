"""Patches put side by side, turned, tied and mirrored."""

from ringcubes.drawings import MOST_CROSSINGS, MOST_RINGS
from ringcubes.ends import exchanged_row
from ringcubes.errors import BadPlace, NotHere, TooMany
from ringcubes.kinds import is_index, need_number
from ringcubes.makings import names_beside
from ringcubes.patches import MOST_RIM_ENDS, Patch, need_patch


def named_crossings(crossings, names):
    """The crossings with other names of arcs; those that names lacks stay."""
    return [(row[0],) + tuple([names.get(arc, arc) for arc in row[1:]]) for row in crossings]


def named_rim(rim, names):
    """The rim ends with other names of arcs; those that names lacks stay."""
    return [(names.get(arc, arc), way) for arc, way in rim]


def patch_beside(one, other):
    """The patch of both side by side, the rim ends of one first."""
    need_patch(one)
    need_patch(other)
    if len(one.crossings) + len(other.crossings) > MOST_CROSSINGS:
        raise TooMany(MOST_CROSSINGS)
    if len(one.rim) + len(other.rim) > MOST_RIM_ENDS:
        raise TooMany(MOST_RIM_ENDS)
    if one.rings + other.rings > MOST_RINGS:
        raise TooMany(MOST_RINGS)
    names = names_beside(one, other)
    crossings = list(one.crossings) + named_crossings(other.crossings, names)
    return Patch(crossings, list(one.rim) + named_rim(other.rim, names), one.rings + other.rings)


def turned_row(row, many):
    """The row with what has the index many, modulo its length, first."""
    if not row:
        return row
    first = many % len(row)
    return row[first:] + row[:first]


def patch_turned(patch, many):
    """The patch with another one of its rim ends first."""
    need_patch(patch)
    need_number(many, "many")
    return Patch(patch.crossings, turned_row(patch.rim, many), patch.rings)


def patch_tied(patch, place):
    """The patch with the rim end at a place and the one that follows joined outside."""
    need_patch(patch)
    if not is_index(place, len(patch.rim)):
        raise BadPlace("no place of the rim")
    behind = (place + 1) % len(patch.rim)
    arc, way = patch.rim[place]
    other, other_way = patch.rim[behind]
    if way == other_way:
        raise NotHere("the ways of both rim ends do not fit")
    rings = patch.rings + 1 if arc == other else patch.rings
    if rings > MOST_RINGS:
        raise TooMany(MOST_RINGS)
    # Both become one arc: it keeps one of the two names, so that no name comes to be used twice.
    names = {other: arc}
    kept = [end for at, end in enumerate(patch.rim) if at not in (place, behind)]
    return Patch(named_crossings(patch.crossings, names), named_rim(kept, names), rings)


def patch_mirrored(patch):
    """The patch with over and under exchanged at each crossing."""
    need_patch(patch)
    return Patch([exchanged_row(crossing) for crossing in patch.crossings], patch.rim, patch.rings)
