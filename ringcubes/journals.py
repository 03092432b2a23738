"""Journals: the start of a live drawing and its deeds, line by line."""

from ringcubes.deedtexts import deed_of_text, deed_text, start_of_text, start_text
from ringcubes.errors import BadLive, BadText, RingError
from ringcubes.live import LiveDrawing


def journal_text(live):
    """The text of a live drawing: its start, then its deeds."""
    if not isinstance(live, LiveDrawing):
        raise BadLive("no live drawing")
    lines = ["live " + start_text(live.start)]
    lines.extend([deed_text(deed) for deed in live.deeds()])
    return "\n".join(lines)


def led_live(text):
    """The live drawing of a journal."""
    if not isinstance(text, str):
        raise BadText(0)
    lines = text.split("\n")
    word, _, rest = lines[0].partition(" ")
    if word != "live":
        raise BadText(0)
    live = LiveDrawing(start_of_text(rest))
    for at in range(1, len(lines)):
        try:
            live.do(deed_of_text(lines[at]))
        except RingError:
            raise BadText(at) from None
    return live
