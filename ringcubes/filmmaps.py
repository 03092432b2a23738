"""The maps of plain films, and the numbers of closed ones."""

from ringcubes.cube import states_at
from ringcubes.drawings import Drawing, need_cube, need_drawing
from ringcubes.errors import NotHere
from ringcubes.films import film_weight
from ringcubes.filmsteps import FilmWay
from ringcubes.kinds import need_number, need_prime


def film_map(prime, drawing, film, height, weight):
    """For each state there how many times, modulo a prime, a plain film leads it to each state at its end."""
    need_prime(prime)
    need_drawing(drawing)
    way = FilmWay(drawing, film)
    need_number(height, "height")
    need_number(weight, "weight")
    need_cube(drawing)
    goals = states_at(way.cubes[-1], height, weight + film_weight(film))
    rows = []
    for state in states_at(way.cubes[0], height, weight):
        led = way.state_led(state)
        rows.append(tuple([led.get(goal, 0) % prime for goal in goals]))
    return tuple(rows)


def closed_number(film):
    """The whole number to which a plain film from nothing to nothing leads the only state."""
    way = FilmWay(Drawing([], 0), film)
    if way.cubes[-1].drawing.rings > 0:
        raise NotHere("a ring is left")
    return way.state_led(((), ())).get(((), ()), 0)
