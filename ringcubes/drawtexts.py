"""Drawings as texts, line by line."""

from ringcubes.drawings import Drawing, need_drawing
from ringcubes.ends import is_crossing
from ringcubes.errors import BadDrawing, BadText
from ringcubes.kinds import is_between
from ringcubes.numerals import numbers_text, numbers_told


def drawing_text(drawing):
    """The text of a drawing."""
    need_drawing(drawing)
    lines = ["drawing " + str(drawing.rings)]
    lines.extend(["crossing " + numbers_text(crossing) for crossing in drawing.crossings])
    return "\n".join(lines)


def numbers_behind(line, first):
    """The numbers behind the first word of a line; None if it has another first word, or other things behind it."""
    words = line.split(" ")
    if words[0] != first:
        return None
    return numbers_told(words[1:])


def rings_in(line):
    """The number of rings that the first line of a text tells; None if it tells none."""
    numbers = numbers_behind(line, "drawing")
    if numbers is None or len(numbers) != 1 or not is_between(numbers[0], 0, 8):
        return None
    return numbers[0]


def crossing_in(line):
    """The crossing that a line tells; None if it tells none."""
    numbers = numbers_behind(line, "crossing")
    if numbers is None or not is_crossing(tuple(numbers)):
        return None
    return tuple(numbers)


def drawing_of_text(text):
    """The drawing with this text."""
    if not isinstance(text, str):
        raise BadText(0)
    lines = text.split("\n")
    rings = rings_in(lines[0])
    if rings is None:
        raise BadText(0)
    crossings = [crossing_in(line) for line in lines[1:]]
    if None in crossings:
        raise BadText(1 + crossings.index(None))
    try:
        return Drawing(crossings, rings)
    except BadDrawing:
        raise BadText(len(lines)) from None
