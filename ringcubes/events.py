"""The forms of events: which word takes which values."""

from ringcubes.ends import is_arc
from ringcubes.kinds import is_between, is_number, is_row, is_sign

PLAIN_FORMS = {
    "birth": ("index",), "death": ("index",), "split": ("index", "index"), "join": ("index", "index"),
    "shed": ("arc", "index"), "taken": ("arc", "index"), "saddle": ("side", "side"), "dot": ("arc",),
    "spot": ("index",)}
MOVE_FORMS = {
    "kinked": ("arc", "sign", "over"), "ring_kinked": ("sign",), "unkinked": ("index",),
    "laid_over": ("side", "side"), "pulled_off": ("index", "index"), "slid": ("index",)}


def form_of(word):
    """The kinds of values behind the word of an event; None for no such word."""
    return PLAIN_FORMS.get(word, MOVE_FORMS.get(word))


def is_counted(thing):
    """Whether thing is a number from 0 on, as an index is."""
    return is_number(thing) and thing >= 0


def has_kind(kind, thing):
    """Whether thing is a value of the kind that a form tells."""
    if kind == "arc":
        return is_arc(thing)
    if kind == "sign":
        return is_sign(thing)
    if kind == "over":
        return is_between(thing, 0, 1)
    if kind == "side":
        return is_row(thing, 2) and is_arc(thing[0]) and is_between(thing[1], 0, 1)
    return is_counted(thing)


def is_worded(thing):
    """Whether thing is a tuple that begins with a word."""
    return isinstance(thing, tuple) and len(thing) > 0 and isinstance(thing[0], str)


def has_form(form, thing):
    """Whether the values of a tuple behind its word are of these kinds."""
    return len(thing) == 1 + len(form) and all([has_kind(kind, worth) for kind, worth in zip(form, thing[1:])])


def is_any_event(thing):
    """Whether thing is an event."""
    if not is_worded(thing) or form_of(thing[0]) is None or not has_form(form_of(thing[0]), thing):
        return False
    return thing[0] not in ("split", "join") or thing[1] < thing[2]


def is_plain_event(thing):
    """Whether thing is a plain event."""
    return is_any_event(thing) and thing[0] in PLAIN_FORMS
