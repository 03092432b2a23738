"""Strands turned round, and arcs joined where crossings are left out."""

from ringcubes.ends import OVER_IN, OVER_OUT, UNDER_IN, UNDER_OUT


def turned_rows(crossings, turned):
    """The crossings with the strands over the arcs in turned the other way round."""
    rows = []
    for sign, under_in, under_out, over_in, over_out in crossings:
        if (under_in in turned) != (over_in in turned):
            sign = -sign
        if under_in in turned:
            under_in, under_out = under_out, under_in
        if over_in in turned:
            over_in, over_out = over_out, over_in
        rows.append((sign, under_in, under_out, over_in, over_out))
    return rows


def straight_on(crossings, gone):
    """A dict that leads each arc into a crossing of gone to the one by which its strand comes out."""
    onward = {}
    for index in gone:
        crossing = crossings[index]
        onward[crossing[UNDER_IN]] = crossing[UNDER_OUT]
        onward[crossing[OVER_IN]] = crossing[OVER_OUT]
    return onward


def chain_from(start, onward):
    """The arcs from start on that become one arc, till no other one is joined or start comes again."""
    chain = [start]
    while chain[-1] in onward and onward[chain[-1]] != start:
        chain.append(onward[chain[-1]])
    return chain


def linked(rows, onward, rings):
    """Join the arcs as onward tells, where rows are the crossings that are left.

    Told is (crossings, rings, names, loops): names leads each arc to its new name, loops leads
    each arc of a ring that comes to the index of this ring; a ring comes behind the others.
    """
    names = {}
    for crossing in rows:
        for start in (crossing[UNDER_OUT], crossing[OVER_OUT]):
            for arc in chain_from(start, onward):
                names[arc] = start
    loops = {}
    for start in onward:
        if start not in names and start not in loops:
            for arc in chain_from(start, onward):
                loops[arc] = rings
            rings += 1
    told = []
    for sign, under_in, under_out, over_in, over_out in rows:
        told.append((sign, names[under_in], under_out, names[over_in], over_out))
    return told, rings, names, loops


def without(drawing, gone):
    """The drawing without the crossings of gone, their strands going straight on, as linked tells."""
    rows = [crossing for index, crossing in enumerate(drawing.crossings) if index not in gone]
    return linked(rows, straight_on(drawing.crossings, gone), drawing.rings)
