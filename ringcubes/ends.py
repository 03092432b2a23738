"""The four ends of crossings and how arcs tie them: what drawings, faces and moves share.

Here crossings are rows (sign, under_in, under_out, over_in, over_out); a slot is the index
in such a row, a place the number of an end, going round the crossing to the left.
"""

from ringcubes.kinds import is_between, is_row, is_sign

UNDER_IN = 1
UNDER_OUT = 2
OVER_IN = 3
OVER_OUT = 4
SLOTS_OF_PLUS = (1, 4, 2, 3)
SLOTS_OF_MINUS = (1, 3, 2, 4)


def is_arc(thing):
    """Whether thing is a number from 0 to 99."""
    return is_between(thing, 0, 99)


def is_crossing(thing):
    """Whether thing is a tuple of a sign and four arcs."""
    return is_row(thing, 5) and is_sign(thing[0]) and all([is_arc(arc) for arc in thing[1:]])


def slots_of(crossing):
    """The slots of a crossing in the sequence of their places."""
    if crossing[0] == 1:
        return SLOTS_OF_PLUS
    return SLOTS_OF_MINUS


def place_of(crossing, slot):
    """The place of the end in this slot."""
    return slots_of(crossing).index(slot)


def arc_at(crossing, place):
    """The arc at this place."""
    return crossing[slots_of(crossing)[place]]


def into_spots(crossings):
    """A dict from each arc to the pair (index, slot) by which it goes into a crossing."""
    found = {}
    for index, crossing in enumerate(crossings):
        for slot in (UNDER_IN, OVER_IN):
            found[crossing[slot]] = (index, slot)
    return found


def out_spots(crossings):
    """A dict from each arc to the pair (index, slot) by which it comes out of a crossing."""
    found = {}
    for index, crossing in enumerate(crossings):
        for slot in (UNDER_OUT, OVER_OUT):
            found[crossing[slot]] = (index, slot)
    return found


def arcs_of(crossings):
    """The ascending tuple of all arcs that come."""
    return tuple(sorted({arc for crossing in crossings for arc in crossing[1:]}))


def is_tied(crossings):
    """Whether each arc that comes goes out of a crossing just once and into one just once."""
    goes_in = [crossing[slot] for crossing in crossings for slot in (UNDER_IN, OVER_IN)]
    comes_out = [crossing[slot] for crossing in crossings for slot in (UNDER_OUT, OVER_OUT)]
    each = list(arcs_of(crossings))
    return sorted(goes_in) == each and sorted(comes_out) == each


def other_end(crossings, into, out, index, slot):
    """The spot at the other end of the arc in this slot; into and out are its tables of spots."""
    arc = crossings[index][slot]
    if slot in (UNDER_IN, OVER_IN):
        return out[arc]
    return into[arc]


def lots(members, pairs):
    """The ascending list of ascending tuples of members that hang together by pairs."""
    near = {member: [] for member in members}
    for one, other in pairs:
        near[one].append(other)
        near[other].append(one)
    seen = set()
    found = []
    for member in sorted(members):
        if member in seen:
            continue
        lot = [member]
        seen.add(member)
        done = 0
        while done < len(lot):
            fresh = [mate for mate in near[lot[done]] if mate not in seen]
            for mate in fresh:
                if mate not in seen:
                    seen.add(mate)
                    lot.append(mate)
            done += 1
        found.append(tuple(sorted(lot)))
    return found


def piece_rows(crossings):
    """The pieces: ascending tuples of indexes of crossings that hang together by arcs."""
    into = into_spots(crossings)
    out = out_spots(crossings)
    return lots(list(range(len(crossings))), [(out[arc][0], into[arc][0]) for arc in into])


def corner_behind(crossings, into, out, corner):
    """The corner that follows this one."""
    index, place = corner
    slot = slots_of(crossings[index])[(place + 1) % 4]
    far, far_slot = other_end(crossings, into, out, index, slot)
    return far, place_of(crossings[far], far_slot)


def face_rows(crossings):
    """The ascending list of all faces."""
    into = into_spots(crossings)
    out = out_spots(crossings)
    seen = set()
    found = []
    for start in [(index, place) for index in range(len(crossings)) for place in range(4)]:
        if start in seen:
            continue
        face = []
        corner = start
        while corner not in seen:
            seen.add(corner)
            face.append(corner)
            corner = corner_behind(crossings, into, out, corner)
        found.append(tuple(face))
    return found


def is_plane(crossings):
    """Whether the corners of each piece of n crossings lie on n + 2 faces."""
    starts = [face[0][0] for face in face_rows(crossings)]
    for piece in piece_rows(crossings):
        if len([index for index in starts if index in piece]) != len(piece) + 2:
            return False
    return True
