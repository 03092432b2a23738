"""Films: events that change a drawing, one after the other."""

from ringcubes.drawings import checked_drawing, need_arc, need_drawing
from ringcubes.errors import BadEvent, BadFilm, BadNumber, NotHere, RingError
from ringcubes.events import MOVE_FORMS, is_any_event, is_plain_event
from ringcubes.faces import look_apart
from ringcubes.kinds import is_index, is_list
from ringcubes.moves import rows_ending
from ringcubes.papers import moved_by

BACKWARDS = {"birth": "death", "death": "birth", "split": "join", "join": "split", "shed": "taken", "taken": "shed",
             "dot": "dot", "spot": "spot"}
RINGS_MORE = {"birth": 1, "death": -1, "split": 1, "join": -1, "shed": 1, "taken": -1}
NUMBERS = {"birth": 1, "death": 1, "split": -1, "join": -1, "shed": -1, "taken": -1, "saddle": -1}
DOTS = ("dot", "spot")


def is_event(thing):
    """Whether any value is an event."""
    return is_any_event(thing)


def event_arcs(event):
    """The list of the arcs of a plain event."""
    if event[0] == "saddle":
        return [event[1][0], event[2][0]]
    if event[0] in ("shed", "taken", "dot"):
        return [event[1]]
    return []


def event_rings(event, rings):
    """The pairs of each index of a ring in a plain event, and of how many rings it is one; ahead there are so many."""
    word = event[0]
    if word in ("saddle", "dot"):
        return []
    if word in ("birth", "shed"):
        return [(event[-1], rings + 1)]
    if word == "split":
        return [(event[1], rings), (event[2], rings + 1)]
    # Of a join the first one is below the second one.
    return [(event[-1], rings)]


def need_saddle(drawing, one, other):
    """Raise NotHere unless a saddle can be put between two sides."""
    if one[0] == other[0] or one[1] != other[1] or look_apart(drawing, one, other):
        raise NotHere("no saddle between these sides")


def plain_done(drawing, event):
    """What a plain event makes of the drawing."""
    for arc in event_arcs(event):
        need_arc(drawing, arc)
    for index, many in event_rings(event, drawing.rings):
        if not is_index(index, many):
            raise BadNumber("ring")
    rows = drawing.crossings
    if event[0] == "saddle":
        need_saddle(drawing, event[1], event[2])
        one, other = event_arcs(event)
        rows = rows_ending(drawing, {one: other, other: one})
    return checked_drawing(rows, drawing.rings + RINGS_MORE.get(event[0], 0))


def event_done(drawing, event):
    """The drawing behind an event."""
    need_drawing(drawing)
    if not is_any_event(event):
        raise BadEvent("no event")
    if event[0] in MOVE_FORMS:
        return moved_by(drawing, event)
    return plain_done(drawing, event)


def need_film(film):
    """Raise BadFilm(None) unless film is a list."""
    if not is_list(film):
        raise BadFilm(None)


def stations(drawing, film):
    """The list of all drawings on the way of a film, the first one too; BadFilm(at) where an event cannot be done."""
    need_film(film)
    found = [drawing]
    for at, event in enumerate(film):
        try:
            behind = event_done(found[-1], event)
        except RingError:
            raise BadFilm(at) from None
        found.append(behind)
    return found


def plain_stations(drawing, film):
    """What stations tells; BadFilm(at) also where an event is not plain."""
    need_film(film)
    plain = len([event for event in film if is_plain_event(event)])
    if plain == len(film):
        return stations(drawing, film)
    first = [at for at, event in enumerate(film) if not is_plain_event(event)][0]
    # An event ahead of it that cannot be done is told first.
    stations(drawing, film[:first])
    raise BadFilm(first)


def need_events(film, judge):
    """Raise BadFilm(None) unless film is a list, BadFilm(at) for the first event that is not as judge asks for."""
    need_film(film)
    for at, event in enumerate(film):
        if not judge(event):
            raise BadFilm(at)


def film_end(drawing, film):
    """The drawing behind all events of a film."""
    need_drawing(drawing)
    return stations(drawing, film)[-1]


def film_number(film):
    """How many births and deaths, less how many splits, joins, sheds, takens and saddles."""
    need_events(film, is_any_event)
    return sum([NUMBERS.get(event[0], 0) for event in film])


def film_weight(film):
    """The number of a film, less twice the number of its dots and spots."""
    return film_number(film) - 2 * len([event for event in film if event[0] in DOTS])


def event_back(event):
    """The event that goes back."""
    if event[0] != "saddle":
        return (BACKWARDS[event[0]],) + event[1:]
    return ("saddle",) + tuple([(arc, 1 - side) for arc, side in event[1:]])


def film_back(film):
    """The film that goes back, as a tuple."""
    need_events(film, is_plain_event)
    return tuple([event_back(event) for event in reversed(film)])
