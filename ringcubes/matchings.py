"""Matchings of places at a rim, and the sheets between two of them."""

from ringcubes.ends import lots
from ringcubes.errors import BadMatching, BadNumber
from ringcubes.kinds import is_between, is_index

MOST_PLACES = 12


def need_places(places):
    """Raise BadNumber unless places is an even number from 0 to 12."""
    if not is_between(places, 0, MOST_PLACES) or places % 2 != 0:
        raise BadNumber("places")


def is_crossed(mates):
    """Whether there are places i < j < mate of i < mate of j."""
    many = len(mates)
    return any([i < j < mates[i] < mates[j] for i in range(many) for j in range(many)])


def is_matching(thing):
    """Whether thing is a matching."""
    if not isinstance(thing, tuple) or len(thing) > MOST_PLACES:
        return False
    if not all([is_index(mate, len(thing)) for mate in thing]):
        return False
    if not all([mate != at and thing[mate] == at for at, mate in enumerate(thing)]):
        return False
    return not is_crossed(thing)


def is_matching_of(places, thing):
    """Whether thing is a matching of so many places."""
    return is_matching(thing) and len(thing) == places


def around(inner, outer):
    """The matching of the place 0 and the one behind inner, the places of inner between them, then outer."""
    mate = len(inner) + 1
    return (mate,) + tuple([at + 1 for at in inner]) + (0,) + tuple([at + mate + 1 for at in outer])


def matchings(places):
    """The ascending list of all matchings of so many places."""
    need_places(places)
    known = {0: [()]}
    for many in range(2, places + 1, 2):
        rows = []
        for less in range(0, many, 2):
            rows.extend([around(inner, outer) for inner in known[less] for outer in known[many - 2 - less]])
        known[many] = rows
    return known[places]


def sheet_rows(one, other):
    """The ascending list of the sheets between two matchings of as many places."""
    return lots(list(range(len(one))), list(enumerate(one)) + list(enumerate(other)))


def sheets(one, other):
    """The ascending list of the sheets between two matchings."""
    if not is_matching(one) or not is_matching_of(len(one), other):
        raise BadMatching("no two matchings of as many places")
    return sheet_rows(one, other)
