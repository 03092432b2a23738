"""Chains put side by side, turned, mirrored and tied; patches and drawings told by their pieces."""

from ringcubes.chains import Chain
from ringcubes.drafts import beside, mirrored_draft, turned
from ringcubes.drawings import need_drawing
from ringcubes.errors import BadChain, BadPlace, TooMany
from ringcubes.kinds import ascending, is_index, need_number, need_prime
from ringcubes.leasts import need_chain
from ringcubes.matchings import MOST_PLACES
from ringcubes.patches import need_patch, patch_of
from ringcubes.tangles import patch_counts
from ringcubes.ties import tied


def chain_told(draft):
    """The Chain of a draft."""
    return Chain(draft.prime, draft.places, draft.entries, draft.steps)


def chain_beside(one, other):
    """The chain of each entry of one with each of other."""
    need_chain(one)
    need_chain(other)
    if one.prime != other.prime:
        raise BadChain("fit")
    if one.places + other.places > MOST_PLACES:
        raise TooMany(MOST_PLACES)
    return chain_told(beside(one, other))


def chain_turned(chain, many):
    """The chain with another one of its places first."""
    need_chain(chain)
    need_number(many, "many")
    return chain_told(turned(chain, many))


def chain_mirrored(chain):
    """The chain with heights and weights negated and all steps going back."""
    need_chain(chain)
    return chain_told(mirrored_draft(chain))


def chain_tied(chain, place):
    """The chain with a place and the one that follows joined."""
    need_chain(chain)
    if not is_index(place, chain.places):
        raise BadPlace("no place of the chain")
    return chain_told(tied(chain, place, (place + 1) % chain.places))


def patch_numbers(prime, patch):
    """The least numbers of the chain of a patch, whatever the number of its crossings."""
    need_prime(prime)
    need_patch(patch)
    return ascending(patch_counts(prime, patch))


def rooms_glued(prime, drawing):
    """The rooms over a prime, whatever the number of crossings."""
    need_prime(prime)
    need_drawing(drawing)
    found = patch_counts(prime, patch_of(drawing))
    return ascending({(height, weight): found[(height, weight, mates)] for height, weight, mates in found})
