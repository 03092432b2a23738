"""A desk: a live drawing that is told what to do, and asked, line by line."""

from ringcubes.deedtexts import deed_of_text, deed_text
from ringcubes.drawtexts import drawing_text
from ringcubes.errors import BadText, RingError
from ringcubes.journals import journal_text
from ringcubes.live import LiveDrawing, counts_of, is_name
from ringcubes.numerals import number_told, numbers_text

DONE = "done"
REFUSED = "refused"
UNKNOWN = "?"
TOLD = ("crossings", "minus", "plus", "rings", "ways", "older", "drawing", "journal")
NAMED = ("drop", "rooms", "mark", "since")


def rows_text(rows):
    """Rows of numbers in one line."""
    return " / ".join([numbers_text(row) for row in rows])


def deed_in(line):
    """The deed of a line; None if it tells none."""
    try:
        return deed_of_text(line)
    except BadText:
        return None


class Desk:
    """A live drawing behind a desk."""

    def __init__(self, start):
        self.live = LiveDrawing(start)

    def say(self, line):
        """The answer to a line."""
        if not isinstance(line, str):
            return UNKNOWN
        words = line.split(" ")
        if line in ("undo", "redo"):
            return self.step_back_or_on(line)
        if line in TOLD:
            return self.told_of(line)
        if len(words) == 2 and words[0] in NAMED and is_name(words[1]):
            return self.say_named(words[0], words[1])
        if len(words) == 3 and words[0] == "watch" and is_name(words[1]):
            return self.start_watch(words[1], number_told(words[2]))
        return self.do_line(line)

    def do_line(self, line):
        """The answer to the line of a deed."""
        deed = deed_in(line)
        if deed is None:
            return UNKNOWN
        try:
            self.live.do(deed)
        except RingError:
            return REFUSED
        return DONE

    def step_back_or_on(self, line):
        """The answer to undo or redo."""
        try:
            if line == "undo":
                self.live.undo()
            else:
                self.live.redo()
        except RingError:
            return REFUSED
        return DONE

    def told_of(self, line):
        """What is told of the present drawing, or of all that was done."""
        if line == "drawing":
            return drawing_text(self.live.drawing)
        if line == "journal":
            return journal_text(self.live)
        if line == "older":
            rows = self.live.told()["older"]
            return REFUSED if rows is None else rows_text(rows)
        return str(counts_of(self.live.drawing)[line])

    def start_watch(self, name, prime):
        """The answer to a name and a number from 0 on that are to be watched."""
        if prime is None or prime < 0:
            return UNKNOWN
        try:
            self.live.watch(name, prime)
        except RingError:
            return REFUSED
        return DONE

    def say_named(self, word, name):
        """The answer to a word with a name."""
        if word == "mark":
            self.live.mark(name)
            return DONE
        if word == "since":
            return self.film_since(name)
        watched = self.live.watched()
        if name not in watched:
            return REFUSED
        if word == "rooms":
            rooms = watched[name][1]
            return rows_text([spot + (rooms[spot],) for spot in rooms])
        self.live.unwatch(name)
        return DONE

    def film_since(self, name):
        """The film since a mark as a line."""
        if name not in self.live.marks():
            return REFUSED
        film = self.live.since(name)
        if film is None:
            return "no"
        if not film:
            return "film"
        return "film " + " / ".join([deed_text(event) for event in film])
