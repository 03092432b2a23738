"""Moves that drawings let, and rows of them."""

import random

from ringcubes import moves
from ringcubes.errors import RingError
from ringcubes.faces import faces


def sides(drawing):
    """All sides of arcs."""
    return [(arc, side) for arc in drawing.arcs for side in (0, 1)]


def all_moves(drawing):
    """All tuples that might be moves of the drawing."""
    many = len(drawing.crossings)
    found = [("kinked", arc, sign, over) for arc in drawing.arcs for sign in (1, -1) for over in (0, 1)]
    found += [("ring_kinked", sign) for sign in (1, -1)]
    found += [("unkinked", crossing) for crossing in range(many)]
    found += [("laid_over", over, under) for over in sides(drawing) for under in sides(drawing)]
    found += [("pulled_off", one, other) for one in range(many) for other in range(many) if one != other]
    found += [("slid", face) for face in range(len(faces(drawing)))]
    return found


def moved(drawing, move):
    """What the function of a move makes."""
    return getattr(moves, move[0])(drawing, *move[1:])


def moves_let(drawing):
    """The pairs (move, moved drawing) of all moves that the drawing lets."""
    found = []
    for move in all_moves(drawing):
        try:
            found.append((move, moved(drawing, move)))
        except RingError:
            pass
    return found


def touched_arcs(drawing, move):
    """The arcs that a move touches."""
    rows = drawing.crossings
    if move[0] == "kinked":
        return [move[1]]
    if move[0] == "laid_over":
        return [side[0] for side in move[1:]]
    if move[0] == "slid":
        return [arc for index, _ in faces(drawing)[move[1]] for arc in rows[index][1:]]
    if move[0] == "ring_kinked":
        return []
    return [arc for index in move[1:] for arc in rows[index][1:]]


def walk(drawing, many, most, seed):
    """A row of so many pairs (move, moved drawing), with at most so many crossings on the way.

    Moves that are seldom to be had are preferred, so that all kinds come.
    """
    chance = random.Random(seed)
    row = []
    for _ in range(many):
        let = [pair for pair in moves_let(drawing) if len(pair[1].crossings) <= most]
        words = sorted({move[0] for move, _ in let})
        word = chance.choice(words + [word for word in words if word in ("slid", "slid", "pulled_off", "laid_over")])
        row.append(chance.choice([pair for pair in let if pair[0][0] == word]))
        drawing = row[-1][1]
    return row
