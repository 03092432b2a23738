"""Surfaces from a matching to another one, put behind one another."""

from ringcubes.errors import BadMatching, BadSurface
from ringcubes.kinds import need_prime
from ringcubes.matchings import is_matching, is_matching_of, sheet_rows
from ringcubes.seams import Seam, is_surface, surface_of


def need_surface(prime, one, other, thing):
    """Raise BadSurface unless thing is a surface from one matching to another one."""
    if not is_surface(prime, len(sheet_rows(one, other)), thing):
        raise BadSurface("no surface between these matchings")


def put_behind(prime, one, two, three, first, second):
    """The surface from one to three that first, from one to two, and second, from two to three, make."""
    need_prime(prime)
    if not is_matching(one) or not is_matching_of(len(one), two) or not is_matching_of(len(one), three):
        raise BadMatching("no matchings of as many places")
    need_surface(prime, one, two, first)
    need_surface(prime, two, three, second)
    total = {}
    Seam(one, two, three).add_glued(total, first, second)
    return surface_of(prime, total)
