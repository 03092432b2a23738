"""What is told on two slanted lines: the older row halved, and whole rooms of alternate drawings."""

from ringcubes.alternates import is_alternate
from ringcubes.drawings import linking, need_cube, need_drawing, ways
from ringcubes.errors import BadTable, NotHere, TooMany
from ringcubes.kinds import is_number
from ringcubes.shadeforms import signature
from ringcubes.steps import rows_over
from ringcubes.tones import is_one_piece
from ringcubes.webtrees import tree_spots

MOST_WIDE = 100


def halved_row(row):
    """The dict told with row[w] = told[w - 1] + told[w + 1] for all w."""
    if not isinstance(row, dict) or not all([is_number(key) and is_number(row[key]) for key in row]):
        raise BadTable("no dict from numbers to numbers")
    if not row:
        return {}
    least, most = min(list(row)), max(list(row))
    if most - least > MOST_WIDE:
        raise TooMany(MOST_WIDE)
    halves = {}
    for weight in range(least, most + 3):
        halves[weight + 1] = row.get(weight, 0) - halves.get(weight - 1, 0)
    # Whatever is left beyond the row would go on for ever.
    if halves[most + 2] != 0 or halves[most + 3] != 0:
        raise BadTable("the row cannot be halved")
    return {weight: halves[weight] for weight in halves if halves[weight] != 0}


def linking_heights(drawing):
    """A dict e: how many lots of ways without the first have each number as twice their linking with the others."""
    many = len(ways(drawing))
    links = {(one, other): linking(drawing, one, other) for one in range(many) for other in range(one)}
    found = {}
    for bits in rows_over((0, 1), max(many, 1) - 1):
        sides = (0,) + bits
        height = 2 * sum([links[pair] for pair in links if sides[pair[0]] != sides[pair[1]]])
        found[height] = found.get(height, 0) + 1
    return found


def tree_heights(drawing):
    """A dict a: how many trees there are of each height."""
    found = {}
    spots = tree_spots(drawing)
    for height, weight in spots:
        found[height] = found.get(height, 0) + spots[(height, weight)]
    return found


def told_by_trees(drawing):
    """The whole rooms of an alternate drawing, told by trees, linking and signature."""
    need_drawing(drawing)
    if not is_alternate(drawing) or not is_one_piece(drawing):
        raise NotHere("not alternate, or not just one piece or ring")
    need_cube(drawing)
    many = tree_heights(drawing)
    even = linking_heights(drawing)
    shift = signature(drawing)
    pairs = 0
    told = {}
    for height in range(min(many), max(many) + 2):
        before = pairs
        lone = even.get(height, 0)
        pairs = many.get(height, 0) - lone - before
        told[(height, 2 * height - shift - 1)] = (lone + pairs, (2,) * before)
        told[(height, 2 * height - shift + 1)] = (lone + before, ())
    return {spot: told[spot] for spot in told if told[spot] != (0, ())}
