"""How much of what the steps leave a plain film leads on without loss."""

from ringcubes.drawings import need_cube, need_drawing, ways
from ringcubes.errors import BadWay
from ringcubes.films import film_weight
from ringcubes.filmsteps import FilmWay
from ringcubes.kinds import is_index, need_prime
from ringcubes.layers import layer_rows, numbered_layers
from ringcubes.spans import Span


def made_spans(prime, cube, layers):
    """A dict from pairs (height, weight) to the Span of what the step makes there."""
    spans = {}
    for height, weight in sorted(layers):
        skipped = spans[(height, weight)].lead_of if (height, weight) in spans else {}
        span = Span(prime)
        goals = layers.get((height + 1, weight), {})
        for row in layer_rows(cube, layers[(height, weight)], skipped, goals):
            span.keep(span.cleared(row))
        spans[(height + 1, weight)] = span
    return spans


class FilmRanks:
    """The ranks of a film over a prime, found height by height."""

    def __init__(self, prime, way, more):
        self.prime = prime
        self.way = way
        self.more = more
        self.near, self.far = way.cubes[0], way.cubes[-1]
        self.layers = numbered_layers(self.near, self.near.all_states())
        self.goals = numbered_layers(self.far, self.far.all_states())
        self.made = made_spans(prime, self.far, self.goals)
        self.skipped = {}
        self.found = {}

    def row_of(self, state, goals, nexts):
        """Where the film leads a state, and behind these columns where the step leads it."""
        row = {}
        led = self.way.state_led(state)
        for goal in led:
            row[goals[goal]] = led[goal]
        stepped = self.near.step_from(state)
        for goal in stepped:
            row[len(goals) + nexts[goal]] = stepped[goal]
        return row

    def rank_at(self, spot):
        """Find the rank at a pair (height, weight)."""
        height, weight = spot
        goals = self.goals.get((height, weight + self.more), {})
        nexts = self.layers.get((height + 1, weight), {})
        span = self.made.get((height, weight + self.more), Span(self.prime))
        made = len(span.lead_columns)
        for state in self.layers[spot]:
            # A state that is made together with others adds nothing: what is made is led to what is made.
            if self.layers[spot][state] not in self.skipped.get(spot, {}):
                span.keep(span.cleared(self.row_of(state, goals, nexts)))
        leads = span.lead_columns[made:]
        # Columns of the step are kept first: what is kept in others is led on by the film, and to 0 by the step.
        self.skipped[(height + 1, weight)] = {lead - len(goals): True for lead in leads if lead >= len(goals)}
        many = len([lead for lead in leads if lead < len(goals)])
        if many > 0:
            self.found[spot] = many


def ranks_of(prime, way, more):
    """The ascending dict from pairs (height, weight) to the ranks of a plain film of this weight."""
    ranks = FilmRanks(prime, way, more)
    for spot in sorted(ranks.layers):
        ranks.rank_at(spot)
    return ranks.found


def film_ranks(prime, drawing, film):
    """The ascending dict from pairs (height, weight) to how much of what the step leaves there the film keeps."""
    need_prime(prime)
    need_drawing(drawing)
    way = FilmWay(drawing, film)
    need_cube(drawing)
    return ranks_of(prime, way, film_weight(film))


def dot_ranks(prime, drawing, index):
    """The ranks of a dot on the first arc of a way."""
    need_prime(prime)
    need_drawing(drawing)
    rows = ways(drawing)
    if not is_index(index, len(rows)):
        raise BadWay("no index of a way")
    need_cube(drawing)
    return ranks_of(prime, FilmWay(drawing, [("dot", rows[index][0])]), -2)
