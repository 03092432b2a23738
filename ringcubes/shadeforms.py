"""Forms of shades, and what they tell of the string: signature and determinant."""

from ringcubes.drawings import need_drawing, pieces
from ringcubes.errors import BadForm, BadNumber
from ringcubes.kinds import is_between, is_list, is_number
from ringcubes.minors import leading_minors
from ringcubes.tones import faces_met, shade_faces, tones_on

MOST_ROWS = 20


def need_shade(shade):
    """Raise BadNumber unless shade is 0 or 1."""
    if not is_between(shade, 0, 1):
        raise BadNumber("shade")


def least_faces(drawing, rows):
    """The indexes of the least one of the faces told in each piece."""
    return [min([at for at, face in enumerate(rows) if face[0][0] in piece]) for piece in pieces(drawing)]


def shade_form(drawing, shade):
    """The table of the faces of a shade, but the least one of each piece."""
    need_drawing(drawing)
    need_shade(shade)
    rows = shade_faces(drawing, shade)
    tones = tones_on(rows)
    form = [[0 for _ in rows] for _ in rows]
    for index, (one, other) in faces_met(rows).items():
        if one != other:
            form[one][one] += tones[index]
            form[other][other] += tones[index]
            form[one][other] -= tones[index]
            form[other][one] -= tones[index]
    gone = least_faces(drawing, rows)
    kept = [at for at in range(len(rows)) if at not in gone]
    return tuple([tuple([form[at][place] for place in kept]) for at in kept])


def is_form(rows):
    """Whether rows is a list of at most 20 lists of numbers, as many in each, alike across the diagonal."""
    if not is_list(rows) or len(rows) > MOST_ROWS:
        return False
    for row in rows:
        if not is_list(row) or len(row) != len(rows) or not all([is_number(number) for number in row]):
            return False
    many = len(rows)
    return all([rows[at][place] == rows[place][at] for at in range(many) for place in range(at)])


def form_sign(rows):
    """How many more numbers above 0 than below 0 there are if the form is told by squares alone."""
    if not is_form(rows):
        raise BadForm("no table of at most 20 rows that is alike across the diagonal")
    minors = leading_minors(rows)
    # On the diagonal there would be each minor over the one ahead of it.
    return sum([1 if one * other > 0 else -1 for one, other in zip(minors, minors[1:])])


def signature(drawing):
    """The sign of the form of the dark faces, less half the sum of all signs and tones."""
    need_drawing(drawing)
    tones = tones_on(shade_faces(drawing, 0))
    total = drawing.plus - drawing.minus + sum([tones[index] for index in tones])
    return form_sign(shade_form(drawing, 0)) - total // 2


def determinant(drawing):
    """The determinant of the form of the dark faces, without its sign; 0 for more than one piece or ring."""
    need_drawing(drawing)
    if len(pieces(drawing)) + drawing.rings > 1:
        return 0
    rows = shade_form(drawing, 0)
    minors = leading_minors(rows)
    return abs(minors[-1]) if len(minors) > len(rows) else 0
