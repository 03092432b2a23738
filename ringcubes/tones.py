"""Shades of faces, and the tones of crossings for them."""

from ringcubes.drawings import pieces
from ringcubes.faces import faces, shades


def shade_faces(drawing, shade):
    """The ascending list of the faces of a shade: the dark ones for 0, all others for 1."""
    dark = shades(drawing)
    if shade == 0:
        return dark
    return [face for face in faces(drawing) if face not in dark]


def tones_on(rows):
    """A dict from each crossing to its tone for the shade whose faces rows are."""
    return {index: 1 - 2 * (place % 2) for face in rows for index, place in face}


def faces_met(rows):
    """A dict from each crossing to the list of the two indexes of faces, of one shade, that its corners are on."""
    met = {}
    for at, face in enumerate(rows):
        for index, _ in face:
            met.setdefault(index, []).append(at)
    return met


def is_one_piece(drawing):
    """Whether pieces and rings beside are together just one."""
    return len(pieces(drawing)) + drawing.rings == 1
