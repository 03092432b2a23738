"""Chains: entries, each a matching with height and weight, and steps, surfaces between them."""

from ringcubes.errors import BadChain, TooMany
from ringcubes.kinds import is_index, is_list, is_number, is_row, need_prime
from ringcubes.matchings import is_matching_of, need_places
from ringcubes.patchcubes import PatchCube
from ringcubes.patches import need_patch
from ringcubes.seams import Seams, is_surface

MOST_OF_CHAIN = 8


def is_entry(places, thing):
    """Whether thing is an entry: a triple of height, weight and a matching of so many places."""
    return is_row(thing, 3) and is_number(thing[0]) and is_number(thing[1]) and is_matching_of(places, thing[2])


def is_step(prime, entries, seams, thing):
    """Whether thing is a step: a triple of the indexes of two entries and a surface, not ()."""
    many = len(entries)
    if not is_row(thing, 3) or not is_index(thing[0], many) or not is_index(thing[1], many):
        return False
    here, there = entries[thing[0]], entries[thing[1]]
    if there[0] != here[0] + 1 or thing[2] == ():
        return False
    return is_surface(prime, seams.sheet_count(here[2], there[2]), thing[2])


def are_steps(prime, entries, seams, thing):
    """Whether thing is a list of steps, no two of them from one entry to one other."""
    if not is_list(thing) or not all([is_step(prime, entries, seams, step) for step in thing]):
        return False
    return len({(i, j) for i, j, _ in thing}) == len(thing)


def twice_level(seams, here, there):
    """Twice as many dots as are level from an entry to another one; odd, or below 0, if none are."""
    return there[1] - here[1] - len(here[2]) // 2 + seams.sheet_count(here[2], there[2])


def is_level(entries, seams, step):
    """Whether all dots of a step are level."""
    i, j, surface = step
    twice = twice_level(seams, entries[i], entries[j])
    return all([2 * len(dots) == twice for dots, _ in surface])


def steps_from(steps):
    """A dict from indexes of entries to the lists of the steps that begin there."""
    table = {}
    for step in steps:
        table.setdefault(step[0], []).append(step)
    return table


def two_steps(entries, seams, first_steps, table):
    """A dict from indexes of entries to what the steps told and those behind them make there: dots and numbers."""
    totals = {}
    for i, j, first in first_steps:
        for _, k, second in table.get(j, []):
            seam = seams.seam(entries[i][2], entries[j][2], entries[k][2])
            seam.add_glued(totals.setdefault(k, {}), first, second)
    return totals


def are_nothing_twice(prime, entries, seams, steps):
    """Whether steps and those behind them, summed up by the entries where they begin and end, give nothing."""
    table = steps_from(steps)
    for i in table:
        totals = two_steps(entries, seams, table[i], table)
        for k in totals:
            if any([number % prime != 0 for number in totals[k].values()]):
                return False
    return True


class Chain:
    """Entries, and the steps between them, over a prime."""

    def __init__(self, prime, places, entries, steps):
        need_prime(prime)
        need_places(places)
        if not is_list(entries) or not all([is_entry(places, entry) for entry in entries]):
            raise BadChain("entries")
        seams = Seams()
        if not are_steps(prime, entries, seams, steps):
            raise BadChain("steps")
        if not all([is_level(entries, seams, step) for step in steps]):
            raise BadChain("weights")
        if not are_nothing_twice(prime, entries, seams, steps):
            raise BadChain("twice")
        self.prime = prime
        self.places = places
        self.entries = tuple(entries)
        self.steps = tuple(sorted(steps))

    def __eq__(self, other):
        if not isinstance(other, Chain) or self.prime != other.prime or self.places != other.places:
            return False
        return self.entries == other.entries and self.steps == other.steps


def chain_of(prime, patch):
    """The chain of a patch: its states, and the steps between them."""
    need_prime(prime)
    need_patch(patch)
    if len(patch.crossings) > MOST_OF_CHAIN:
        raise TooMany(MOST_OF_CHAIN)
    cube = PatchCube(patch)
    found = cube.all_states()
    numbers = {state: at for at, state in enumerate(found)}
    steps = []
    for state in found:
        for goal, dots, sign in cube.led_from(state):
            steps.append((numbers[state], numbers[goal], ((dots, sign % prime),)))
    return Chain(prime, len(patch.rim), [cube.entry_of(state) for state in found], steps)
