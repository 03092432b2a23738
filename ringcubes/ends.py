"""The four ends of crossings and how arcs tie them: what drawings, faces and moves share.

Here crossings are rows (sign, under_in, under_out, over_in, over_out); a slot is the index
in such a row, a place the number of an end, going round the crossing to the left. A star tells
the ends alone, of whatever stands where arcs begin and end: pairs (arc, whether it begins there).
"""

from ringcubes.kinds import is_between, is_row, is_sign

UNDER_IN = 1
UNDER_OUT = 2
OVER_IN = 3
OVER_OUT = 4
SLOTS_OF_PLUS = (1, 4, 2, 3)
SLOTS_OF_MINUS = (1, 3, 2, 4)
# With each place, by choice 0 and by choice 1 at a crossing of whatever sign, the place that it is joined with.
PLACES_JOINED = ((1, 0, 3, 2), (3, 2, 1, 0))


def is_arc(thing):
    """Whether thing is a number from 0 to 99."""
    return is_between(thing, 0, 99)


def is_crossing(thing):
    """Whether thing is a tuple of a sign and four arcs."""
    return is_row(thing, 5) and is_sign(thing[0]) and all([is_arc(arc) for arc in thing[1:]])


def slots_of(crossing):
    """The slots of a crossing in the sequence of their places."""
    if crossing[0] == 1:
        return SLOTS_OF_PLUS
    return SLOTS_OF_MINUS


def place_of(crossing, slot):
    """The place of the end in this slot."""
    return slots_of(crossing).index(slot)


def star_of(crossing):
    """The star of a crossing: for each place, in sequence, its arc and whether this arc begins there."""
    return [(crossing[slot], slot in (UNDER_OUT, OVER_OUT)) for slot in slots_of(crossing)]


def exchanged_row(crossing):
    """The crossing with over and under exchanged."""
    sign, under_in, under_out, over_in, over_out = crossing
    return -sign, over_in, over_out, under_in, under_out


def into_spots(crossings):
    """A dict from each arc to the pair (index, slot) by which it goes into a crossing."""
    found = {}
    for index, crossing in enumerate(crossings):
        for slot in (UNDER_IN, OVER_IN):
            found[crossing[slot]] = (index, slot)
    return found


def out_spots(crossings):
    """A dict from each arc to the pair (index, slot) by which it comes out of a crossing."""
    found = {}
    for index, crossing in enumerate(crossings):
        for slot in (UNDER_OUT, OVER_OUT):
            found[crossing[slot]] = (index, slot)
    return found


def arcs_of(stars):
    """The ascending tuple of all arcs that come."""
    return tuple(sorted({arc for star in stars for arc, _ in star}))


def is_tied(stars):
    """Whether each arc that comes begins just once and ends just once."""
    ends = [end for star in stars for end in star]
    return sorted(ends) == [(arc, begins) for arc in arcs_of(stars) for begins in (False, True)]


def other_end(crossings, into, out, index, slot):
    """The spot at the other end of the arc in this slot; into and out are its tables of spots."""
    arc = crossings[index][slot]
    if slot in (UNDER_IN, OVER_IN):
        return out[arc]
    return into[arc]


def lots(members, pairs):
    """The ascending list of ascending tuples of members that hang together by pairs."""
    near = {member: [] for member in members}
    for one, other in pairs:
        near[one].append(other)
        near[other].append(one)
    seen = set()
    found = []
    for member in sorted(members):
        if member in seen:
            continue
        lot = [member]
        seen.add(member)
        done = 0
        while done < len(lot):
            fresh = [mate for mate in near[lot[done]] if mate not in seen]
            for mate in fresh:
                if mate not in seen:
                    seen.add(mate)
                    lot.append(mate)
            done += 1
        found.append(tuple(sorted(lot)))
    return found


def piece_rows(crossings):
    """The pieces: ascending tuples of indexes of crossings that hang together by arcs."""
    return star_pieces([star_of(crossing) for crossing in crossings])


def star_spots(stars):
    """A dict from each end (arc, whether the arc begins there) to the pair (index of its star, place)."""
    return {end: (index, place) for index, star in enumerate(stars) for place, end in enumerate(star)}


def star_pieces(stars):
    """The pieces: ascending tuples of indexes of stars that hang together by arcs."""
    spots = star_spots(stars)
    pairs = [(spots[(arc, True)][0], spots[(arc, False)][0]) for arc, begins in spots if begins]
    return lots(list(range(len(stars))), pairs)


def corner_behind(stars, spots, corner):
    """The corner that follows this one; spots are those of the stars."""
    index, place = corner
    arc, begins = stars[index][(place + 1) % len(stars[index])]
    return spots[(arc, not begins)]


def star_faces(stars):
    """The ascending list of all faces, of whatever number of ends the stars have."""
    spots = star_spots(stars)
    seen = set()
    found = []
    for start in [(index, place) for index, star in enumerate(stars) for place in range(len(star))]:
        if start in seen:
            continue
        face = []
        corner = start
        while corner not in seen:
            seen.add(corner)
            face.append(corner)
            corner = corner_behind(stars, spots, corner)
        found.append(tuple(face))
    return found


def face_rows(crossings):
    """The ascending list of all faces."""
    return star_faces([star_of(crossing) for crossing in crossings])


def is_plane(stars):
    """Whether the corners of each piece lie on as many faces as they do in the plane.

    These are n + 2 for n crossings, as each star has half as many arcs as ends.
    """
    starts = [face[0][0] for face in star_faces(stars)]
    for piece in star_pieces(stars):
        corners = sum([len(stars[index]) for index in piece])
        if len([index for index in starts if index in piece]) != 2 - len(piece) + corners // 2:
            return False
    return True
