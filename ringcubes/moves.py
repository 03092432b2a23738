"""The moves: they change a drawing, but not the strings that it shows."""

from ringcubes.drawings import checked_drawing, need_arc, need_crossing, need_drawing
from ringcubes.ends import OVER_IN, OVER_OUT, UNDER_IN, UNDER_OUT, into_spots, slots_of
from ringcubes.errors import BadArc, BadCrossing, BadNumber, NotHere
from ringcubes.faces import faces, look_apart
from ringcubes.kinds import is_between, is_index, is_row, is_sign
from ringcubes.strands import without


def new_arcs(drawing, many):
    """So many names that are no arcs of the drawing, the least ones."""
    return [arc for arc in range(len(drawing.arcs) + many) if arc not in drawing.arcs][:many]


def rows_ending(drawing, ends):
    """The crossings as lists, where ends leads arcs to those that go into crossings in their places."""
    rows = [list(crossing) for crossing in drawing.crossings]
    into = into_spots(drawing.crossings)
    for arc in ends:
        index, slot = into[arc]
        rows[index][slot] = ends[arc]
    return rows


def kinked(drawing, arc, sign, over):
    """The drawing with one more crossing of the strand of arc with itself."""
    need_drawing(drawing)
    need_arc(drawing, arc)
    if not is_sign(sign):
        raise BadNumber("sign")
    if not is_between(over, 0, 1):
        raise BadNumber("over")
    loop, last = new_arcs(drawing, 2)
    rows = rows_ending(drawing, {arc: last})
    if over == 1:
        rows.append([sign, loop, last, arc, loop])
    else:
        rows.append([sign, arc, loop, loop, last])
    return checked_drawing(rows, drawing.rings)


def ring_kinked(drawing, sign):
    """The drawing with one ring made a way with one crossing."""
    need_drawing(drawing)
    if not is_sign(sign):
        raise BadNumber("sign")
    if drawing.rings == 0:
        raise NotHere("no ring to be kinked")
    first, last = new_arcs(drawing, 2)
    rows = rows_ending(drawing, {})
    rows.append([sign, first, last, last, first])
    return checked_drawing(rows, drawing.rings - 1)


def kink_loop(drawing, crossing):
    """The arc that leads from this crossing straight into it again; NotHere if there is none."""
    row = drawing.crossings[crossing]
    if row[UNDER_OUT] == row[OVER_IN]:
        return row[UNDER_OUT]
    if row[OVER_OUT] == row[UNDER_IN]:
        return row[OVER_OUT]
    raise NotHere("no kink at this crossing")


def drawing_without(drawing, gone):
    """The drawing without these crossings, their strands going straight on."""
    rows, rings, _, _ = without(drawing, gone)
    return checked_drawing(rows, rings)


def unkinked(drawing, crossing):
    """The drawing without the crossing of a kink."""
    need_drawing(drawing)
    need_crossing(drawing, crossing)
    kink_loop(drawing, crossing)
    return drawing_without(drawing, [crossing])


def need_side(drawing, side):
    """Raise BadArc unless side is a side of an arc of the drawing."""
    if not is_row(side, 2) or not is_between(side[1], 0, 1):
        raise BadArc("no side")
    need_arc(drawing, side[0])


def laid_over(drawing, over, under):
    """The drawing with the strand of the side over pushed over that of the side under."""
    need_drawing(drawing)
    need_side(drawing, over)
    need_side(drawing, under)
    if over == under or look_apart(drawing, over, under):
        raise NotHere("the sides do not look at one face")
    top, top_side = over
    low, low_side = under
    top_mid, top_last, low_mid, low_last = new_arcs(drawing, 4)
    rows = rows_ending(drawing, {top: top_last, low: low_last})
    # Drawn with the lower strand from left to right below the face, the upper one first goes down.
    sign = 1 if low_side == 0 else -1
    first = [sign, low, low_mid, top, top_mid]
    second = [-sign, low_mid, low_last, top_mid, top_last]
    if top_side == low_side:
        # The strands run against each other: what the upper one meets first the lower one meets last.
        first[UNDER_IN], first[UNDER_OUT] = low_mid, low_last
        second[UNDER_IN], second[UNDER_OUT] = low, low_mid
    return checked_drawing(rows + [first, second], drawing.rings)


def face_edges(drawing, face):
    """For each corner of the face a tuple (arc, crossing, whether over, crossing, whether over).

    The arc is the one from this corner to the next one; the rest tells of both its ends.
    """
    found = []
    for at, (index, place) in enumerate(face):
        far, far_place = face[(at + 1) % len(face)]
        leaving = (place + 1) % 4
        arc = drawing.crossings[index][slots_of(drawing.crossings[index])[leaving]]
        # Both ends of the upper strand have odd places.
        found.append((arc, index, leaving % 2 == 1, far, far_place % 2 == 1))
    return found


def tops_and_lows(drawing, face):
    """The edges of the face that go over at both ends, and those that go under at both ends."""
    edges = face_edges(drawing, face)
    tops = [row for row in edges if row[2] and row[4]]
    lows = [row for row in edges if not row[2] and not row[4]]
    return tops, lows


def overlap_arcs(drawing, one, other):
    """The upper and the lower arc of a face of two corners, at these crossings; NotHere if there is none."""
    for face in faces(drawing):
        if len(face) == 2 and sorted([face[0][0], face[1][0]]) == sorted([one, other]):
            tops, lows = tops_and_lows(drawing, face)
            if tops:
                return tops[0][0], lows[0][0]
    raise NotHere("no strand lies over another one here")


def pulled_off(drawing, one, other):
    """The drawing without two crossings at which one strand just lies over another one."""
    need_drawing(drawing)
    many = len(drawing.crossings)
    if not is_index(one, many) or not is_index(other, many) or one == other:
        raise BadCrossing("no two different indexes of crossings")
    overlap_arcs(drawing, one, other)
    return drawing_without(drawing, [one, other])


def three_strands(drawing, face):
    """The edges of a face that can be slid: the upper one, that in the middle, the lower one."""
    rows = faces(drawing)
    if not is_index(face, len(rows)):
        raise BadNumber("face")
    corners = rows[face]
    if len(corners) != 3 or len({index for index, _ in corners}) != 3:
        raise NotHere("the face has not three corners at three crossings")
    tops, lows = tops_and_lows(drawing, corners)
    if not tops or not lows:
        raise NotHere("no strand goes over both others")
    mids = [row for row in face_edges(drawing, corners) if row[2] != row[4]]
    return tops[0], mids[0], lows[0]


def slid(drawing, face):
    """The drawing with the upper strand of a face pushed over the crossing of the two others."""
    need_drawing(drawing)
    rows = [list(crossing) for crossing in drawing.crossings]
    for arc, one, one_over, other, other_over in three_strands(drawing, face):
        one_in = OVER_IN if one_over else UNDER_IN
        one_out = OVER_OUT if one_over else UNDER_OUT
        other_in = OVER_IN if other_over else UNDER_IN
        other_out = OVER_OUT if other_over else UNDER_OUT
        before = drawing.crossings[one]
        behind = drawing.crossings[other]
        # Each strand meets its two crossings in the other sequence: what led into the first one
        # leads into the second one, and what came out of the second one comes out of the first one.
        if before[one_out] == arc:
            rows[other][other_in], rows[other][other_out] = before[one_in], arc
            rows[one][one_in], rows[one][one_out] = arc, behind[other_out]
        else:
            rows[one][one_in], rows[one][one_out] = behind[other_in], arc
            rows[other][other_in], rows[other][other_out] = arc, before[one_out]
    return checked_drawing(rows, drawing.rings)
