"""Parts that are free and parts that fade, where the rule (h, 0) has a letter h."""

from ringcubes.drawings import need_cube, need_drawing, need_prime_and_cube
from ringcubes.errors import BadTable
from ringcubes.kinds import ascending, is_number, is_row, is_spot, need_prime
from ringcubes.ownsums import OWN_RULE, s_at
from ringcubes.pairings import paired
from ringcubes.ringbounds import need_one_way


def fades(prime, drawing):
    """The ascending dict from pairs (height, weight) to pairs (free, lengths)."""
    need_prime_and_cube(prime, drawing)
    # With 1 in the place of the letter nothing is lost: the weights of both states of a pair tell its power.
    alone, pairs = paired(prime, OWN_RULE, drawing)
    lengths = {spot: () for spot in alone}
    for height, weight, length in sorted(pairs):
        spot = (height, weight)
        lengths[spot] = lengths.get(spot, ()) + (length,) * pairs[(height, weight, length)]
    return ascending({spot: (alone.get(spot, 0), lengths[spot]) for spot in lengths})


def longest(prime, drawing):
    """The greatest length of what fades, 0 if nothing does."""
    _, pairs = paired(prime, OWN_RULE, drawing)
    return max([length for _, _, length in pairs], default=0)


def longest_fade(prime, drawing):
    """The greatest length of what fades, 0 if nothing does."""
    need_prime_and_cube(prime, drawing)
    return longest(prime, drawing)


def are_lengths(thing):
    """Whether thing is an ascending tuple of numbers from 1 on."""
    if not isinstance(thing, tuple) or not all([is_number(length) and length > 0 for length in thing]):
        return False
    return all([less <= more for less, more in zip(thing, thing[1:])])


def is_faded_part(thing):
    """Whether thing is a pair (free, lengths)."""
    return is_row(thing, 2) and is_number(thing[0]) and thing[0] >= 0 and are_lengths(thing[1])


def rooms_by_fades(told):
    """The rooms over a prime that fades tell."""
    if not isinstance(told, dict) or not all([is_spot(spot) and is_faded_part(told[spot]) for spot in told]):
        raise BadTable("no dict from pairs of numbers to pairs (free, lengths)")
    found = {}
    for height, weight in told:
        free, lengths = told[(height, weight)]
        spots = [(height - 1, weight - 2 * length) for length in lengths]
        found[(height, weight)] = found.get((height, weight), 0) + free + len(lengths)
        for spot in spots:
            found[spot] = found.get(spot, 0) + 1
    return ascending({spot: found[spot] for spot in found if found[spot] > 0})


def exchange_bound(prime, drawing):
    """A number of exchanges below which no drawing of a ring alone comes, by the number s and by fades."""
    need_prime(prime)
    need_drawing(drawing)
    need_one_way(drawing)
    need_cube(drawing)
    length = longest(prime, drawing)
    if prime != 2:
        length = max(length - 1, 0)
    return max(abs(s_at(prime, drawing)) // 2, length)
