"""A live drawing: deeds change it, can be taken back, and lead along what is watched."""

from ringcubes.braids import closed_braid
from ringcubes.deeds import LOST, OTHER_DEEDS, deed_done, rooms_led
from ringcubes.drawings import MOST_OF_CUBE, Drawing, need_cube, way_count
from ringcubes.errors import BadDeed, BadName, BadStart, NoMark, NothingLeft, NoWatch, RingError
from ringcubes.events import is_any_event, is_counted, is_worded
from ringcubes.gluing import rooms_glued
from ringcubes.kinds import ascending, is_row, need_prime
from ringcubes.makings import rooms_product
from ringcubes.older import older_row

LETTERS = "abcdefghijklmnopqrstuvwxyz"
MOST_LETTERS = 8


def started(start):
    """The drawing of a start."""
    if not is_row(start, 3) or start[0] not in ("drawing", "braid"):
        raise BadStart("no start")
    if start[0] == "drawing":
        return Drawing(start[1], start[2])
    return closed_braid(start[1], start[2])


def can_start(start):
    """Whether started raises nothing."""
    try:
        started(start)
    except RingError:
        return False
    return True


def is_deed(thing):
    """Whether any value is a deed."""
    if is_any_event(thing):
        return True
    if not is_worded(thing):
        return False
    if thing[0] == "beside":
        return len(thing) == 2 and can_start(thing[1])
    if thing[0] not in OTHER_DEEDS or len(thing) != 1 + OTHER_DEEDS[thing[0]]:
        return False
    return all([is_counted(number) for number in thing[1:]])


def kept_start(start):
    """A start with its list as a tuple."""
    if start[0] == "drawing":
        return start[0], tuple(start[1]), start[2]
    return start[0], start[1], tuple(start[2])


def kept_deed(deed):
    """A deed with all lists in it as tuples."""
    if deed[0] == "beside":
        return deed[0], kept_start(deed[1])
    return deed


def is_name(thing):
    """Whether thing is a string of 1 to 8 letters from a to z."""
    if not isinstance(thing, str) or not 1 <= len(thing) <= MOST_LETTERS:
        return False
    return all([letter in LETTERS for letter in thing])


def need_name(name):
    """Raise BadName unless name is a name."""
    if not is_name(name):
        raise BadName("no name")


def watches_led(watches, deed, ahead, behind):
    """The dict of all that is watched behind a deed."""
    if deed[0] in LOST:
        return {}
    if deed[0] != "beside":
        return {name: (watches[name][0], rooms_led(watches[name][1], deed, ahead, behind)) for name in watches}
    other = started(deed[1])
    if len(other.crossings) > MOST_OF_CUBE:
        return {}
    told = {}
    for name in watches:
        prime, rooms = watches[name]
        told[name] = (prime, rooms_product(rooms, rooms_glued(prime, other)))
    return told


def counts_of(drawing):
    """A dict of the numbers that are told of a drawing."""
    return {"crossings": len(drawing.crossings), "minus": drawing.minus, "plus": drawing.plus,
            "rings": drawing.rings, "ways": way_count(drawing)}


class LiveDrawing:
    """A drawing, the deeds done since its start, those taken back, what is watched, and marks."""

    def __init__(self, start):
        self.drawing = started(start)
        self.start = kept_start(start)
        self.standing = 0
        self.past = []
        self.undone = []
        self.watches = {}
        self.kept = {}

    def advance(self, deed):
        """Do a kept deed; nothing is changed if it is refused."""
        other = started(deed[1]) if deed[0] == "beside" else None
        behind = deed_done(self.drawing, deed, other)
        watches = watches_led(self.watches, deed, self.drawing, behind)
        self.past.append((deed, self.drawing, self.watches))
        self.drawing = behind
        self.watches = watches
        self.standing = len(self.past)

    def do(self, deed):
        """Do a deed; it makes an end of those taken back."""
        if not is_deed(deed):
            raise BadDeed("no deed")
        self.advance(kept_deed(deed))
        self.undone = []

    def deeds(self):
        """The list of the deeds done."""
        return [row[0] for row in self.past]

    def undo(self):
        """Take back the last deed done."""
        if not self.past:
            raise NothingLeft("no deed is done")
        deed, drawing, watches = self.past.pop()
        self.undone.append(deed)
        self.drawing = drawing
        self.watches = watches
        self.standing = len(self.past)

    def redo(self):
        """Do the deed last taken back again."""
        if not self.undone:
            raise NothingLeft("no deed is taken back")
        self.advance(self.undone[-1])
        self.undone.pop()

    def told(self):
        """What is told of the present drawing."""
        told = counts_of(self.drawing)
        told["older"] = None
        if len(self.drawing.crossings) <= MOST_OF_CUBE:
            told["older"] = tuple(older_row(self.drawing).items())
        return ascending(told)

    def watch(self, name, prime):
        """Watch the rooms over a prime under this name."""
        need_name(name)
        need_prime(prime)
        need_cube(self.drawing)
        told = {known: self.watches[known] for known in self.watches}
        told[name] = (prime, rooms_glued(prime, self.drawing))
        self.watches = told

    def unwatch(self, name):
        """Watch nothing under this name any longer."""
        if not is_name(name) or name not in self.watches:
            raise NoWatch(name)
        self.watches = {known: self.watches[known] for known in self.watches if known != name}

    def watched(self):
        """The ascending dict from the watched names to pairs (prime, rooms)."""
        told = {}
        for name in sorted(self.watches):
            prime, rooms = self.watches[name]
            told[name] = (prime, {spot: rooms[spot] for spot in rooms})
        return told

    def mark(self, name):
        """Keep the present drawing, and the deeds done, under this name."""
        need_name(name)
        self.kept[name] = (self.drawing, self.deeds())

    def marks(self):
        """The ascending list of the names of marks."""
        return sorted(self.kept)

    def kept_at(self, name):
        """What is kept under a name; NoMark for any value that is none."""
        if not is_name(name) or name not in self.kept:
            raise NoMark(name)
        return self.kept[name]

    def marked(self, name):
        """The drawing that is kept under this name."""
        return self.kept_at(name)[0]

    def since(self, name):
        """The film of the events done since the mark; None if other things were done."""
        _, before = self.kept_at(name)
        present = self.deeds()
        rest = present[len(before):]
        if present[:len(before)] != before or not all([is_any_event(deed) for deed in rest]):
            return None
        return tuple(rest)
