"""Films for the tests, and where events lead states, done once more by arcs."""

import itertools
import random

from ringcubes.errors import RingError
from ringcubes.films import event_done
from tests.samples import plain_rings
from tests.walks import all_moves, sides

JOINS = {(1, 1): [1], (1, -1): [-1], (-1, 1): [-1], (-1, -1): []}
SPLITS = {1: [(1, -1), (-1, 1)], -1: [(-1, -1)]}
PLAIN_WORDS = ("birth", "death", "split", "join", "shed", "taken", "saddle", "dot", "spot")


def all_plain_events(drawing):
    """All tuples that might be plain events of the drawing."""
    many = drawing.rings
    found = [("birth", k) for k in range(many + 1)] + [("death", k) for k in range(many)]
    found += [("split", k, l) for k in range(many) for l in range(k + 1, many + 1)]
    found += [("join", k, l) for k in range(many) for l in range(k + 1, many)]
    found += [("shed", arc, k) for arc in drawing.arcs for k in range(many + 1)]
    found += [("taken", arc, k) for arc in drawing.arcs for k in range(many)]
    found += [("saddle", one, other) for one in sides(drawing) for other in sides(drawing)]
    return found + [("dot", arc) for arc in drawing.arcs] + [("spot", k) for k in range(many)]


def events_let(drawing, with_moves):
    """The pairs (event, drawing behind it) of all events that the drawing lets."""
    found = []
    for event in all_plain_events(drawing) + (all_moves(drawing) if with_moves else []):
        try:
            found.append((event, event_done(drawing, event)))
        except RingError:
            pass
    return found


def some_film(drawing, seed, many, most_rings=3, most_crossings=4, with_moves=False, words=None):
    """A film of so many events, each word as likely as any other."""
    chance = random.Random(seed)
    film = []
    for _ in range(many):
        let = [pair for pair in events_let(drawing, with_moves)
               if pair[1].rings <= most_rings and len(pair[1].crossings) <= most_crossings]
        kinds = sorted({event[0] for event, _ in let if words is None or event[0] in words})
        if not kinds:
            break
        word = chance.choice(kinds)
        event, drawing = chance.choice([pair for pair in let if pair[0][0] == word])
        film.append(event)
    return film


def put_in(marks, *news):
    """A list of marks with new ones at their indexes, ascending: pairs (index, mark)."""
    told = list(marks)
    for index, mark in news:
        told.insert(index, mark)
    return told


def led_beside(event, beside):
    """The lists of marks of rings beside that an event of these alone makes."""
    word, k = event[0], event[1]
    rest = beside[:k] + beside[k + 1:]
    if word == "birth":
        return [put_in(beside, (k, 1))]
    if word == "death":
        return [rest] if beside[k] == -1 else []
    if word == "split":
        return [put_in(rest, (k, one), (event[2], other)) for one, other in SPLITS[beside[k]]]
    if word == "join":
        both = [mark for at, mark in enumerate(beside) if at not in event[1:]]
        return [put_in(both, (k, mark)) for mark in JOINS[(beside[k], beside[event[2]])]]
    return [put_in(rest, (k, -1))] if beside[k] == 1 else []


def plain_event_led(drawing, behind, event, state):
    """The list of states to which a plain event leads a state, by the words of the document."""
    choice, marks = state
    beside, word = list(marks[:drawing.rings]), event[0]
    rings, news = [plain_rings(one, choice)[one.rings:] for one in (drawing, behind)]
    mark_of = dict(zip(rings, marks[drawing.rings:]))
    if word in ("birth", "death", "split", "join", "spot"):
        told = [(row, mark_of) for row in led_beside(event, beside)]
    elif word == "saddle":
        gone = [ring for ring in rings if ring not in news]
        come = [ring for ring in news if ring not in rings]
        if len(gone) == 2:
            rows = [(mark,) for mark in JOINS[tuple(mark_of[ring] for ring in gone)]]
        else:
            rows = SPLITS[mark_of[gone[0]]]
        told = [(beside, {**mark_of, **dict(zip(come, row))}) for row in rows]
    else:
        ring = next(ring for ring in rings if event[1] in ring)
        mark = mark_of[ring]
        if word == "dot":
            told = [(beside, {**mark_of, ring: -1})] if mark == 1 else []
        elif word == "shed":
            told = [(put_in(beside, (event[2], one)), {**mark_of, ring: other}) for one, other in SPLITS[mark]]
        else:
            rest = beside[:event[2]] + beside[event[2] + 1:]
            told = [(rest, {**mark_of, ring: one}) for one in JOINS[(beside[event[2]], mark)]]
    return [(choice, tuple(row) + tuple(table[ring] for ring in news)) for row, table in told]


def plain_film_led(drawing, film, state):
    """The sum of states to which a plain film leads a state."""
    told = {state: 1}
    for event in film:
        behind = event_done(drawing, event)
        total = {}
        for one, number in told.items():
            for goal in plain_event_led(drawing, behind, event, one):
                total[goal] = total.get(goal, 0) + number
        drawing, told = behind, total
    return told


class Tubes:
    """The pieces of a film of rings alone: births and deaths less splits and joins, rims and dots of each."""

    def __init__(self, rings, film):
        self.piece = list(range(rings))
        self.ahead = list(self.piece)
        self.numbers = {at: [0, 0] for at in self.piece}
        self.met = list(self.numbers)
        for event in film:
            self.grow(event)
        self.behind = self.piece

    def merge(self, one, other):
        """Two pieces become one."""
        if one != other:
            numbers = self.numbers.pop(other)
            self.numbers[one] = [a + b for a, b in zip(self.numbers[one], numbers)]
            self.piece = [one if at == other else at for at in self.piece]
            self.ahead = [one if at == other else at for at in self.ahead]
        return one

    def grow(self, event):
        """One event more."""
        word, k = event[0], event[1]
        if word == "birth":
            fresh = max(self.met, default=-1) + 1
            self.met.append(fresh)
            self.numbers[fresh] = [1, 0]
            self.piece.insert(k, fresh)
        elif word == "death":
            self.numbers[self.piece.pop(k)][0] += 1
        elif word == "split":
            at = self.piece.pop(k)
            self.numbers[at][0] -= 1
            self.piece.insert(k, at)
            self.piece.insert(event[2], at)
        elif word == "join":
            at = self.merge(self.piece[k], self.piece[event[2]])
            self.numbers[at][0] -= 1
            self.piece.pop(event[2])
        else:
            self.numbers[self.piece[k]][1] += 1

    def parts(self):
        """For each piece its handles, dots, and the indexes of its rings ahead and behind."""
        for at, (number, dots) in self.numbers.items():
            ahead = [k for k, piece in enumerate(self.ahead) if piece == at]
            behind = [k for k, piece in enumerate(self.behind) if piece == at]
            rims = len(ahead) + len(behind)
            yield (2 - rims - number) // 2, dots, ahead, behind

    def number(self, marks, goal):
        """How many times marks are led to others, by pieces, handles, rims and dots alone."""
        total = 1
        for handles, dots, ahead, behind in self.parts():
            low = sum(1 for k in ahead if marks[k] == -1) + handles + dots
            others = [goal[k] for k in behind]
            if low == 0:
                fits = others.count(1) == 1
            else:
                fits = low == 1 and 1 not in others
            total *= 2 ** handles if fits else 0
        return total


def marks_over(many):
    """All tuples of so many marks."""
    return list(itertools.product((-1, 1), repeat=many))
