"""Patches for the tests, and the words of the document on them done once more, slowly and plainly."""

import itertools
import random

from ringcubes.braids import closed_braid
from ringcubes.errors import RingError
from ringcubes.joins import patch_beside, patch_tied, patch_turned
from ringcubes.patches import Patch, patch_of
from tests.samples import BORROMEAN, EIGHT, HOPF, KINK, KINK_BACK, NOTHING, RINGS, TREFOIL, joined

EMPTY = Patch([], [], 0)
STRAND = Patch([], [(0, 1), (0, -1)], 0)
CROSS = Patch([(1, 0, 1, 2, 3)], [(0, 1), (3, -1), (1, -1), (2, 1)], 0)
CROSS_BACK = Patch([(-1, 0, 1, 2, 3)], [(0, 1), (2, 1), (1, -1), (3, -1)], 0)
KINKED = Patch([(1, 0, 1, 1, 2)], [(0, 1), (2, -1)], 0)


def braid_patch(strands, word):
    """The patch of a braid, its ends at the bottom first."""
    tops, rows = list(range(strands)), []
    for at, letter in enumerate(word):
        left = abs(letter) - 1
        one, other = tops[left:left + 2]
        tops[left:left + 2] = [strands + 2 * at, strands + 2 * at + 1]
        if letter > 0:
            rows.append((1, other, tops[left], one, tops[left + 1]))
        else:
            rows.append((-1, one, tops[left + 1], other, tops[left]))
    rim = [(at, 1) for at in range(strands)] + [(top, -1) for top in tops[::-1]]
    return Patch(rows, rim, 0)


def some_patch(seed, most):
    """A patch with at most so many crossings, made of small ones in some sequence."""
    chance = random.Random(seed)
    patch = chance.choice((CROSS, CROSS_BACK, STRAND))
    for _ in range(3 * most):
        kind = chance.choice(("beside", "tied", "tied", "turned"))
        try:
            if kind == "beside":
                other = chance.choice((CROSS, CROSS_BACK, CROSS, CROSS_BACK, STRAND, patch_of(KINK), Patch([], [], 1)))
                if len(patch.crossings) + len(other.crossings) <= most and len(patch.rim) + len(other.rim) <= 10:
                    patch = patch_beside(patch, other)
            elif kind == "tied":
                patch = patch_tied(patch, chance.randrange(max(1, len(patch.rim))))
            else:
                patch = patch_turned(patch, chance.randrange(-9, 10))
        except RingError:
            pass
    return patch


PATCHES = (EMPTY, STRAND, CROSS, CROSS_BACK, KINKED, braid_patch(2, [1, 1, 1]), braid_patch(2, [-1, -1]),
           braid_patch(3, [1, -2, 1]), braid_patch(3, [1, 1]), braid_patch(2, [1, -1]), braid_patch(4, [1, 3, 2]),
           braid_patch(6, [1, -3, 5, 2]), braid_patch(6, []), Patch([], [], 3), patch_of(HOPF), patch_of(KINK_BACK),
           patch_of(TREFOIL), patch_of(EIGHT), Patch(CROSS.crossings, CROSS.rim, 2),
           patch_beside(braid_patch(2, [1]), patch_of(KINK_BACK))) + tuple(some_patch(seed, 4) for seed in range(30))
BIGGER = PATCHES + (patch_of(BORROMEAN), patch_of(NOTHING), patch_of(RINGS), braid_patch(3, [1, -2, 1, -2, 1, -2]),
                    braid_patch(2, [1] * 20), patch_of(closed_braid(3, [1, -2] * 10)))


def is_same_but_names(one, other):
    """Whether other names of arcs alone lead from one patch to another one."""
    if [row[0] for row in one.crossings] != [row[0] for row in other.crossings] or one.rings != other.rings:
        return False
    if [way for _, way in one.rim] != [way for _, way in other.rim]:
        return False
    pairs = {pair for near, far in zip(one.crossings, other.crossings) for pair in zip(near[1:], far[1:])}
    pairs |= {(near[0], far[0]) for near, far in zip(one.rim, other.rim)}
    return len(pairs) == len(one.arcs) == len(other.arcs) == len({far for _, far in pairs})


def plain_picture(patch, choice):
    """The rings of a choice, those beside first, and the matching of its strands, by merging sets."""
    parts = [{arc} for arc in patch.arcs]
    for row, bit in zip(patch.crossings, choice):
        for one, other in joined(row, bit):
            with_one = next(part for part in parts if one in part)
            with_other = next(part for part in parts if other in part)
            if with_one is not with_other:
                parts.remove(with_other)
                with_one |= with_other
    ends = [arc for arc, _ in patch.rim]
    rings = sorted(tuple(sorted(part)) for part in parts if not part & set(ends))
    mates = []
    for at, arc in enumerate(ends):
        part = next(part for part in parts if arc in part)
        mates.append(next(far for far, end in enumerate(ends) if far != at and end in part))
    return [()] * patch.rings + rings, tuple(mates)


def plain_patch_states(patch):
    """The states of a patch in their sequence, with their entries."""
    plus = sum(1 for row in patch.crossings if row[0] == 1)
    minus = len(patch.crossings) - plus
    found = []
    for choice in itertools.product((0, 1), repeat=len(patch.crossings)):
        rings, mates = plain_picture(patch, choice)
        for marks in itertools.product((-1, 1), repeat=len(rings)):
            weight = sum(marks) + sum(choice) + plus - 2 * minus
            found.append(((choice, marks), (sum(choice) - minus, weight, mates)))
    return found


def plain_sheets(one, other):
    """The sheets of two matchings, by merging sets."""
    parts = [{place} for place in range(len(one))]
    for mates in (one, other):
        for place, mate in enumerate(mates):
            near = next(part for part in parts if place in part)
            far = next(part for part in parts if mate in part)
            if near is not far:
                parts.remove(far)
                near |= far
    return sorted(tuple(sorted(part)) for part in parts)


def plain_patch_step(patch, state):
    """Where the step leads a state of a patch: a dict from states to pairs (dots, sign)."""
    choice, marks = state
    ahead, mates = plain_picture(patch, choice)
    sheet_rows = plain_sheets(mates, mates)
    told = {}
    for index, bit in enumerate(choice):
        if bit == 1:
            continue
        goal = choice[:index] + (1,) + choice[index + 1:]
        behind, goal_mates = plain_picture(patch, goal)
        gone = [ring for ring in ahead if ring not in behind]
        come = [ring for ring in behind if ring not in ahead]
        own = tuple(mark for ring, mark in zip(ahead, marks) if ring in gone)
        dot = ()
        if len(gone) + len(come) == 1:
            # The strand is the one that has the arcs of the crossing that the ring lacks.
            dot = (strand_sheet(patch, choice if come else goal, index, sheet_rows),)
        for fresh, dots in outcomes(gone, come, own, dot):
            mark_of = dict(zip(ahead, marks))
            mark_of.update(zip(come, fresh))
            row = marks[:patch.rings] + tuple(mark_of[ring] for ring in behind[patch.rings:])
            told[(goal, row)] = (dots, (-1) ** sum(choice[:index]))
        assert (mates == goal_mates) == bool(gone + come)
    return told


def outcomes(gone, come, own, dot):
    """What the rings that go make of those that come: pairs (marks, dots)."""
    if len(gone) == 2:
        return [((min(own),), ())] if own != (-1, -1) else []
    if len(come) == 2:
        return [((1, -1), ()), ((-1, 1), ())] if own == (1,) else [((-1, -1), ())]
    if gone:
        return [((), () if own == (1,) else dot)]
    if come:
        return [((-1,), ()), ((1,), dot)]
    return [((), ())]


def strand_sheet(patch, choice, index, sheet_rows):
    """The index of the sheet of the strand that has all arcs of a crossing."""
    rings, mates = plain_picture(patch, choice)
    assert not any(arc in ring for ring in rings for arc in patch.crossings[index][1:])
    parts = [{arc} for arc in patch.arcs]
    for row, bit in zip(patch.crossings, choice):
        for one, other in joined(row, bit):
            both = [part for part in parts if one in part or other in part]
            parts = [part for part in parts if part not in both] + [set().union(*both)]
    part = next(part for part in parts if patch.crossings[index][1] in part)
    place = next(at for at, (arc, _) in enumerate(patch.rim) if arc in part)
    assert patch.crossings[index][3] in part and mates[place] >= 0
    return next(at for at, sheet in enumerate(sheet_rows) if place in sheet)
