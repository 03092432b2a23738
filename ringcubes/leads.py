"""Leads between chains: surfaces from entries to entries, and the tables that they are.

A table is a dict from pairs (i, j) of indexes to sums, dicts from dots to numbers from 1 on below the prime.
"""

from ringcubes.chains import is_level
from ringcubes.kinds import is_index, is_row
from ringcubes.seams import is_surface, surface_of


def lead_table(lead):
    """The table of a lead, or of the steps of a chain."""
    return {(i, j): {dots: number for dots, number in surface} for i, j, surface in lead}


def lead_of(prime, table):
    """The lead of a table."""
    return tuple([(i, j, surface_of(prime, table[(i, j)])) for i, j in sorted(table)])


def plain_table_of(many):
    """The table that leads each of so many entries to itself alone, plain."""
    return {(at, at): {(): 1} for at in range(many)}


def is_lead_part(told, one, other, more):
    """Whether the thing of told is a triple (i, j, surface) of a lead; see is_lead."""
    prime, seams, thing = told
    if not is_row(thing, 3) or not is_index(thing[0], len(one)) or not is_index(thing[1], len(other)):
        return False
    here, there = one[thing[0]], other[thing[1]]
    if there[0] != here[0] + more or thing[2] == ():
        return False
    if not is_surface(prime, seams.sheet_count(here[2], there[2]), thing[2]):
        return False
    return is_level([here, there], seams, (0, 1, thing[2]))


def is_lead(told, one, other, more):
    """Whether any value is a lead from entries to other ones of so much more height.

    told is a triple of the prime, Seams, and the value.
    """
    prime, seams, thing = told
    if not isinstance(thing, tuple):
        return False
    if not all([is_lead_part((prime, seams, part), one, other, more) for part in thing]):
        return False
    return all([ahead[:2] < behind[:2] for ahead, behind in zip(thing, thing[1:])])
