"""Drawings of closed braids."""

from ringcubes.drawings import Drawing
from ringcubes.errors import BadBraid, BadNumber
from ringcubes.kinds import is_between, is_list

MOST_STRANDS = 8
MOST_LETTERS = 20


def is_word(strands, word):
    """Whether word is a list of at most 20 numbers, not 0, between -strands and strands."""
    if not is_list(word) or len(word) > MOST_LETTERS:
        return False
    return all([is_between(letter, 1 - strands, strands - 1) and letter != 0 for letter in word])


def braid_rows(strands, word):
    """The crossings of the braid, open at top and bottom, and the arcs at the top."""
    tops = list(range(strands))
    rows = []
    for at, letter in enumerate(word):
        left = abs(letter) - 1
        from_left, from_right = tops[left], tops[left + 1]
        to_left = strands + 2 * at
        to_right = to_left + 1
        if letter > 0:
            rows.append((1, from_right, to_left, from_left, to_right))
        else:
            rows.append((-1, from_left, to_right, from_right, to_left))
        tops[left], tops[left + 1] = to_left, to_right
    return rows, tops


def closed_braid(strands, word):
    """The drawing of the braid of this word with its ends at the top led round to the bottom."""
    if not is_between(strands, 1, MOST_STRANDS):
        raise BadNumber("strands")
    if not is_word(strands, word):
        raise BadBraid("no word of a braid")
    rows, tops = braid_rows(strands, word)
    bottom_of = {top: bottom for bottom, top in enumerate(tops)}
    told = []
    for row in rows:
        told.append((row[0],) + tuple([bottom_of.get(arc, arc) for arc in row[1:]]))
    rings = len([bottom for bottom, top in enumerate(tops) if bottom == top])
    return Drawing(told, rings)
