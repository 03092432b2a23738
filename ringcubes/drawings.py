"""Drawings, their ways and their pieces."""

from ringcubes.ends import arcs_of, is_crossing, is_plane, is_tied, piece_rows, star_of
from ringcubes.errors import BadArc, BadCrossing, BadDrawing, BadWay, TooMany
from ringcubes.kinds import is_between, is_index, is_list, is_number, need_prime

MOST_CROSSINGS = 20
MOST_RINGS = 8
MOST_OF_CUBE = 10


class Drawing:
    """Closed strings in the plane that cross one another, and rings beside."""

    def __init__(self, crossings, rings):
        if not is_list(crossings) or len(crossings) > MOST_CROSSINGS:
            raise BadDrawing("crossings")
        if not all([is_crossing(crossing) for crossing in crossings]):
            raise BadDrawing("crossings")
        if not is_between(rings, 0, MOST_RINGS):
            raise BadDrawing("rings")
        stars = [star_of(crossing) for crossing in crossings]
        if not is_tied(stars):
            raise BadDrawing("arcs")
        if not is_plane(stars):
            raise BadDrawing("plane")
        self.crossings = tuple(crossings)
        self.rings = rings
        self.arcs = arcs_of(stars)
        self.plus = len([crossing for crossing in crossings if crossing[0] == 1])
        self.minus = len(crossings) - self.plus

    def __eq__(self, other):
        return isinstance(other, Drawing) and self.crossings == other.crossings and self.rings == other.rings


def need_drawing(thing):
    """Raise BadDrawing(None) unless thing is a Drawing."""
    if not isinstance(thing, Drawing):
        raise BadDrawing(None)


def need_arc(drawing, arc):
    """Raise BadArc unless arc is an arc of the drawing."""
    if not is_number(arc) or arc not in drawing.arcs:
        raise BadArc("no arc of the drawing")


def need_crossing(drawing, crossing):
    """Raise BadCrossing unless crossing is an index of a crossing."""
    if not is_index(crossing, len(drawing.crossings)):
        raise BadCrossing("no index of a crossing")


def need_cube(drawing):
    """Raise TooMany(10) for more crossings than the whole cube is worked out for."""
    if len(drawing.crossings) > MOST_OF_CUBE:
        raise TooMany(MOST_OF_CUBE)


def need_prime_and_cube(prime, drawing):
    """Raise BadPrime, BadDrawing(None), then TooMany(10) for more crossings than the whole cube is worked out for."""
    need_prime(prime)
    need_drawing(drawing)
    need_cube(drawing)


def checked_drawing(crossings, rings):
    """The Drawing; TooMany for too many crossings, then for too many rings."""
    if len(crossings) > MOST_CROSSINGS:
        raise TooMany(MOST_CROSSINGS)
    if rings > MOST_RINGS:
        raise TooMany(MOST_RINGS)
    return Drawing([tuple(crossing) for crossing in crossings], rings)


def arcs_behind(drawing):
    """A dict from each arc to the arc by which its strand goes on."""
    behind = {}
    for _, under_in, under_out, over_in, over_out in drawing.crossings:
        behind[under_in] = under_out
        behind[over_in] = over_out
    return behind


def ways(drawing):
    """The ascending list of the ways."""
    need_drawing(drawing)
    behind = arcs_behind(drawing)
    seen = set()
    found = []
    for start in drawing.arcs:
        way = []
        arc = start
        while arc not in seen:
            seen.add(arc)
            way.append(arc)
            arc = behind[arc]
        if way:
            found.append(tuple(way))
    return found


def way_count(drawing):
    """How many ways and rings there are."""
    need_drawing(drawing)
    return len(ways(drawing)) + drawing.rings


def linking(drawing, one, other):
    """Half the sum of the signs of all crossings of two different ways."""
    need_drawing(drawing)
    rows = ways(drawing)
    if not is_index(one, len(rows)) or not is_index(other, len(rows)) or one == other:
        raise BadWay("no two different indexes of ways")
    total = 0
    for sign, under_in, _, over_in, _ in drawing.crossings:
        if under_in in rows[one] and over_in in rows[other]:
            total += sign
        if under_in in rows[other] and over_in in rows[one]:
            total += sign
    return total // 2


def pieces(drawing):
    """The ascending list of the pieces, ascending tuples of indexes of crossings."""
    need_drawing(drawing)
    return piece_rows(drawing.crossings)
