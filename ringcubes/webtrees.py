"""Trees of the web of dark faces and crossings, and the pairs (height, weight) where they stand."""

from itertools import combinations

from ringcubes.drawings import need_cube, need_drawing
from ringcubes.ends import lots
from ringcubes.errors import BadTree, NotHere
from ringcubes.kinds import are_indexes, ascending
from ringcubes.tones import faces_met, is_one_piece, shade_faces, tones_on


class Web:
    """The dark faces of a drawing as nodes, and its crossings as edges between them, with their tones."""

    def __init__(self, drawing):
        rows = shade_faces(drawing, 0)
        self.drawing = drawing
        self.nodes = list(range(max(1, len(rows))))
        self.edges = faces_met(rows)
        self.tones = tones_on(rows)

    def is_tree(self, lot):
        """Whether all nodes hang together by different crossings, with no way round."""
        if len(lot) != len(self.nodes) - 1:
            return False
        return len(lots(self.nodes, [self.edges[index] for index in lot])) == 1

    def all_trees(self):
        """The ascending list of all trees."""
        size = len(self.nodes[1:])
        return [lot for lot in combinations(list(range(len(self.edges))), size) if self.is_tree(lot)]

    def live_in(self, tree):
        """The ascending list of the live crossings of a tree and outside."""
        outside = [index for index in range(len(self.edges)) if index not in tree]
        idle = []
        for gone in tree:
            rest = [index for index in tree if index != gone]
            for come in outside:
                if self.is_tree(rest + [come]):
                    idle.append(max(gone, come))
        return [index for index in range(len(self.edges)) if index not in idle]

    def spot_of(self, tree):
        """The pair (height, weight) of a tree."""
        live = self.live_in(tree)
        height = -self.drawing.minus
        weight = self.drawing.plus - 2 * self.drawing.minus
        for index in range(len(self.edges)):
            sign = self.tones[index] if index in tree else -self.tones[index]
            if index in live and sign == 1:
                weight -= 1
            elif index in live:
                height += 1
                weight += 2
            elif sign == 1:
                height += 1
                weight += 1
        return height, weight


def need_one_piece(drawing):
    """Raise NotHere unless pieces and rings beside are together just one."""
    if not is_one_piece(drawing):
        raise NotHere("pieces and rings beside are not just one")


def need_web(drawing):
    """Raise what trees and tree_spots raise."""
    need_drawing(drawing)
    need_one_piece(drawing)
    need_cube(drawing)


def trees(drawing):
    """The ascending list of all trees."""
    need_web(drawing)
    return Web(drawing).all_trees()


def tree_spot(drawing, tree):
    """The pair (height, weight) of a tree."""
    need_drawing(drawing)
    need_one_piece(drawing)
    web = Web(drawing)
    if not are_indexes(tree, len(drawing.crossings)) or not web.is_tree(tree):
        raise BadTree("no ascending tuple of the crossings of a tree")
    return web.spot_of(tree)


def tree_spots(drawing):
    """The ascending dict from pairs (height, weight) to how many trees stand there."""
    need_web(drawing)
    web = Web(drawing)
    found = {}
    for tree in web.all_trees():
        spot = web.spot_of(tree)
        found[spot] = found.get(spot, 0) + 1
    return ascending(found)
