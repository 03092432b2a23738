"""What deeds make of a drawing, and of the rooms that are watched."""

from ringcubes.events import is_any_event
from ringcubes.films import RINGS_MORE, event_done
from ringcubes.kinds import ascending
from ringcubes.makings import rooms_product, side_by_side
from ringcubes.partings import exchanged, parted
from ringcubes.views import mirrored, turned_about, way_turned

# For the words of deeds that are no events, and have a number or none, how many values stand behind them.
OTHER_DEEDS = {"mirror": 0, "about": 0, "turn": 1, "exchange": 1, "part": 1}
LOST = ("saddle", "exchange", "part")


def straight_part(drawing, crossing):
    """The drawing parted so that all directions stay."""
    both = parted(drawing, crossing)
    return both[(1 - drawing.crossings[crossing][0]) // 2][0]


def deed_done(drawing, deed, other):
    """What a deed makes of the drawing; other is the started drawing of a deed that puts one beside."""
    word = deed[0]
    if is_any_event(deed):
        return event_done(drawing, deed)
    if word == "mirror":
        return mirrored(drawing)
    if word == "about":
        return turned_about(drawing)
    if word == "turn":
        return way_turned(drawing, deed[1])
    if word == "exchange":
        return exchanged(drawing, deed[1])
    if word == "part":
        # parted asks for an index of a crossing before a crossing is looked at.
        return straight_part(drawing, deed[1])
    return side_by_side(drawing, other)


def shifted(told, up, more):
    """The rooms with so much more height and weight."""
    return {(height + up, weight + more): told[(height, weight)] for height, weight in told}


def with_ring(told):
    """The rooms with one ring more beside."""
    return rooms_product(told, {(0, -1): 1, (0, 1): 1})


def without_ring(told):
    """The rooms of which those told, ascending, are made by one ring more."""
    found = {}
    for height, weight in told:
        # What has the least weight of all that is left comes of a mark -1 of the ring.
        left = told[(height, weight)] - found.get((height, weight - 1), 0)
        if left > 0:
            found[(height, weight + 1)] = left
    return found


def rooms_led(told, deed, ahead, behind):
    """The rooms over a prime behind a deed that puts nothing beside, told by those ahead of it."""
    word = deed[0]
    if word == "mirror":
        return ascending({(-height, -weight): told[(height, weight)] for height, weight in told})
    if word == "turn":
        more = behind.minus - ahead.minus
        return shifted(told, -more, -3 * more)
    if RINGS_MORE.get(word, 0) == 1:
        return with_ring(told)
    if RINGS_MORE.get(word, 0) == -1:
        return without_ring(told)
    return {spot: told[spot] for spot in told}
