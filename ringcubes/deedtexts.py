"""Starts and deeds as texts of one line."""

from ringcubes.errors import BadDeed, BadText
from ringcubes.live import can_start, is_deed, started
from ringcubes.numerals import numbers_text, numbers_told

MOST = 99


def text_of_start(start):
    """The text of what is a start."""
    if start[0] == "braid":
        return "braid " + numbers_text([start[1]] + list(start[2]))
    rows = [list(crossing) for crossing in start[1]]
    if not rows:
        return "drawing " + numbers_text([start[2]])
    return "drawing " + " / ".join([numbers_text(row) for row in [[start[2]] + rows[0]] + rows[1:]])


def start_text(start):
    """The text of a start."""
    started(start)
    return text_of_start(start)


def start_told(text):
    """The start that a text seems to tell; None if it tells none."""
    word, _, rest = text.partition(" ")
    rows = [numbers_told(part.split(" ")) for part in rest.split(" / ")]
    if None in rows:
        return None
    number = rows[0][0]
    if word == "braid":
        return word, number, tuple(rows[0][1:])
    # Where there are no crossings at all, nothing stands behind the number.
    rows[0] = rows[0][1:]
    return word, tuple([tuple(row) for row in rows if row]), number


def start_of_text(text):
    """The start with this text, lists as tuples."""
    start = start_told(text) if isinstance(text, str) else None
    # What was told loosely, as by a stroke too many, has another text.
    if not can_start(start) or text_of_start(start) != text:
        raise BadText(0)
    return start


def deed_numbers(deed):
    """The list of the numbers of a deed that starts nothing, those of sides one after the other."""
    numbers = []
    for worth in deed[1:]:
        if isinstance(worth, tuple):
            numbers.extend(worth)
        else:
            numbers.append(worth)
    return numbers


def deed_text(deed):
    """The text of a deed."""
    if not is_deed(deed):
        raise BadDeed("no deed")
    if deed[0] == "beside":
        return "beside " + text_of_start(deed[1])
    numbers = deed_numbers(deed)
    if any([number > MOST for number in numbers]):
        raise BadDeed("a number above 99")
    return " ".join([deed[0]] + [str(number) for number in numbers])


def deed_told(text):
    """The deed that a text seems to tell; None if it tells none."""
    words = text.split(" ")
    word = words[0]
    numbers = numbers_told(words[1:])
    if numbers is None:
        return None
    if word in ("saddle", "laid_over"):
        return word, tuple(numbers[:2]), tuple(numbers[2:])
    return (word,) + tuple(numbers)


def deed_of_text(text):
    """The deed with this text, lists as tuples."""
    if not isinstance(text, str):
        raise BadText(0)
    word, _, rest = text.partition(" ")
    if word == "beside":
        return word, start_of_text(rest)
    deed = deed_told(text)
    if not is_deed(deed):
        raise BadText(0)
    return deed
