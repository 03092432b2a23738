"""Patches: drawings in a disc whose strands may end at its rim."""

from ringcubes.drawings import MOST_CROSSINGS, MOST_RINGS, Drawing, need_drawing
from ringcubes.ends import arcs_of, is_arc, is_crossing, is_plane, is_tied, star_of
from ringcubes.errors import BadPatch, NotHere
from ringcubes.kinds import is_between, is_list, is_row, is_sign

MOST_RIM_ENDS = 12


def is_rim_end(thing):
    """Whether thing is a pair of an arc and a way, 1 or -1."""
    return is_row(thing, 2) and is_arc(thing[0]) and is_sign(thing[1])


def patch_stars(crossings, rim):
    """The stars of the crossings, and that of the rim, unless it is empty, seen from outside."""
    stars = [star_of(crossing) for crossing in crossings]
    if rim:
        stars.append([(arc, way == 1) for arc, way in reversed(rim)])
    return stars


class Patch:
    """A drawing in a disc whose strands may end at the rim of the disc."""

    def __init__(self, crossings, rim, rings):
        if not is_list(crossings) or len(crossings) > MOST_CROSSINGS:
            raise BadPatch("crossings")
        if not all([is_crossing(crossing) for crossing in crossings]):
            raise BadPatch("crossings")
        if not is_list(rim) or len(rim) > MOST_RIM_ENDS or not all([is_rim_end(end) for end in rim]):
            raise BadPatch("rim")
        if not is_between(rings, 0, MOST_RINGS):
            raise BadPatch("rings")
        stars = patch_stars(crossings, rim)
        if not is_tied(stars):
            raise BadPatch("arcs")
        if not is_plane(stars):
            raise BadPatch("plane")
        self.crossings = tuple(crossings)
        self.rim = tuple(rim)
        self.rings = rings
        self.arcs = arcs_of(stars)
        self.plus = len([crossing for crossing in crossings if crossing[0] == 1])
        self.minus = len(crossings) - self.plus

    def __eq__(self, other):
        if not isinstance(other, Patch):
            return False
        return self.crossings == other.crossings and self.rim == other.rim and self.rings == other.rings


def need_patch(thing):
    """Raise BadPatch(None) unless thing is a Patch."""
    if not isinstance(thing, Patch):
        raise BadPatch(None)


def patch_of(drawing):
    """The patch of a drawing, without rim ends."""
    need_drawing(drawing)
    return Patch(drawing.crossings, (), drawing.rings)


def drawing_of(patch):
    """The drawing of a patch without rim ends."""
    need_patch(patch)
    if patch.rim:
        raise NotHere("the patch has rim ends")
    return Drawing(patch.crossings, patch.rings)
