"""The errors of the package, all directly below RingError."""


class RingError(ValueError):
    """Any error that this package raises by its own name."""


class BadArc(RingError):
    """No arc, or no side, of the drawing."""


class BadArrows(RingError):
    """No arrows of the drawing."""


class BadBraid(RingError):
    """No word of a braid."""


class BadChain(RingError):
    """A wrong part of a chain."""

    def __init__(self, part):
        self.part = part


class BadChoice(RingError):
    """No choice of the drawing."""


class BadCrossing(RingError):
    """No index of a crossing."""


class BadDeed(RingError):
    """No deed."""


class BadDrawing(RingError):
    """A wrong part of a drawing; None for what is no drawing."""

    def __init__(self, part):
        self.part = part


class BadEvent(RingError):
    """No event."""


class BadFilm(RingError):
    """A wrong event of a film; None for what is no film."""

    def __init__(self, at):
        self.at = at


class BadForm(RingError):
    """No form."""


class BadLive(RingError):
    """No live drawing."""


class BadMatching(RingError):
    """No matching."""


class BadMove(RingError):
    """No move."""


class BadName(RingError):
    """No name."""


class BadNumber(RingError):
    """A wrong number; part tells which."""

    def __init__(self, part):
        self.part = part


class BadOrder(RingError):
    """No sequence of all crossings."""


class BadPatch(RingError):
    """A wrong part of a patch; None for what is no patch."""

    def __init__(self, part):
        self.part = part


class BadPlace(RingError):
    """No place of a rim."""


class BadPrime(RingError):
    """No prime from 2 to 97."""


class BadRule(RingError):
    """No rule."""


class BadStart(RingError):
    """No start."""


class BadState(RingError):
    """No state of the drawing."""


class BadSurface(RingError):
    """No surface."""


class BadTable(RingError):
    """No table of the form asked for."""


class BadText(RingError):
    """A wrong line of a text."""

    def __init__(self, at):
        self.at = at


class BadTree(RingError):
    """No tree."""


class BadWay(RingError):
    """No index of a way."""


class BadWeb(RingError):
    """No web."""


class NoMark(RingError):
    """No mark has this name."""

    def __init__(self, name):
        self.name = name


class NoWatch(RingError):
    """Nothing is watched under this name."""

    def __init__(self, name):
        self.name = name


class NotHere(RingError):
    """What is asked cannot be done here."""


class NotOne(RingError):
    """Not just one way."""


class NothingLeft(RingError):
    """Nothing is left to be done."""


class TooMany(RingError):
    """More than most."""

    def __init__(self, most):
        self.most = most
