"""Alternate drawings: each strand goes over and under by turns."""

from ringcubes.drawings import Drawing, need_drawing
from ringcubes.ends import OVER_IN, UNDER_OUT, exchanged_row, into_spots, out_spots
from ringcubes.errors import BadNumber
from ringcubes.faces import faces, shades
from ringcubes.kinds import is_between
from ringcubes.tones import tones_on


def is_alternate(drawing):
    """Whether each arc that comes out of a crossing beneath goes into one above, and the other way round."""
    need_drawing(drawing)
    into = into_spots(drawing.crossings)
    out = out_spots(drawing.crossings)
    return all([(out[arc][1] == UNDER_OUT) == (into[arc][1] == OVER_IN) for arc in drawing.arcs])


def idle_crossings(drawing):
    """The ascending list of the crossings that have two corners on one face."""
    need_drawing(drawing)
    idle = []
    for face in faces(drawing):
        met = [index for index, _ in face]
        idle.extend([index for index in met if met.count(index) > 1])
    return sorted(set(idle))


def alternated(drawing, parity):
    """The alternate drawing with the same crossings, of which some are exchanged."""
    need_drawing(drawing)
    if not is_between(parity, 0, 1):
        raise BadNumber("parity")
    tones = tones_on(shades(drawing))
    kept = 1 - 2 * parity
    rows = []
    for index, crossing in enumerate(drawing.crossings):
        rows.append(crossing if tones[index] == kept else exchanged_row(crossing))
    return Drawing(rows, drawing.rings)
