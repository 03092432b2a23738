"""Faces of drawings, the dark ones among them, and what the sides of arcs look at."""

from ringcubes.drawings import need_drawing
from ringcubes.ends import face_rows, into_spots, piece_rows, place_of


def faces(drawing):
    """The ascending list of all faces."""
    need_drawing(drawing)
    return face_rows(drawing.crossings)


def face_indexes(rows):
    """A dict from each corner to the index of its face."""
    return {corner: index for index, face in enumerate(rows) for corner in face}


def shades(drawing):
    """The ascending list of the dark faces."""
    rows = faces(drawing)
    face_of = face_indexes(rows)
    dark = {}
    for piece in piece_rows(drawing.crossings):
        first = face_of[(piece[0], 0)]
        dark[first] = True
        todo = [first]
        while todo:
            at = todo.pop()
            for index, place in rows[at]:
                beside = face_of[(index, (place + 1) % 4)]
                if beside not in dark:
                    dark[beside] = not dark[at]
                    todo.append(beside)
    return [face for index, face in enumerate(rows) if dark[index]]


def corner_looked_at(drawing, side):
    """The corner through which a side (arc, number) looks at its face."""
    arc, number = side
    index, slot = into_spots(drawing.crossings)[arc]
    place = place_of(drawing.crossings[index], slot)
    if number == 0:
        return index, (place - 1) % 4
    return index, place


def look_apart(drawing, one, other):
    """Whether two sides look at unlike faces of one piece."""
    face_of = face_indexes(faces(drawing))
    near = corner_looked_at(drawing, one)
    far = corner_looked_at(drawing, other)
    if face_of[near] == face_of[far]:
        return False
    return any([near[0] in piece and far[0] in piece for piece in piece_rows(drawing.crossings)])
