"""The tables of films, moves among their events too."""

from ringcubes.drawings import need_cube, need_drawing
from ringcubes.events import MOVE_FORMS
from ringcubes.films import stations
from ringcubes.filmsteps import event_table
from ringcubes.maps import plain_table
from ringcubes.papers import kept_and_paper
from ringcubes.steps import Cube
from ringcubes.tables import table_behind


def station_table(ahead, behind, event):
    """The table of one event between two drawings."""
    if event[0] in MOVE_FORMS:
        _, paper = kept_and_paper(ahead, behind, event)
        return paper[0]
    return event_table(event, Cube(ahead), Cube(behind))


def film_table(drawing, film):
    """The table of a film, over whole numbers."""
    need_drawing(drawing)
    found = stations(drawing, film)
    for station in found:
        need_cube(station)
    table = plain_table(Cube(drawing))
    for at, event in enumerate(film):
        table = table_behind(table, station_table(found[at], found[at + 1], event))
    return table
