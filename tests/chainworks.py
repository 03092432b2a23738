"""Chains for the tests, and the words of the document on them done once more, slowly and plainly."""

import itertools
import random

from ringcubes.chains import Chain, chain_of
from ringcubes.surfaces import put_behind
from tests.patchworks import PATCHES, plain_sheets
from tests.samples import plain_rank

PLAIN = (((), 1),)


def level_count(here, there):
    """How many dots are level from an entry to another one; None if none are."""
    many = len(plain_sheets(here[2], there[2]))
    twice = there[1] - here[1] - len(here[2]) // 2 + many
    if twice % 2 or not 0 <= twice <= 2 * many:
        return None
    return twice // 2


def some_level(chance, prime, here, there):
    """A surface with level dots; () if there is none."""
    count = level_count(here, there)
    if count is None:
        return ()
    rows = itertools.combinations(range(len(plain_sheets(here[2], there[2]))), count)
    return tuple((dots, chance.randrange(1, prime)) for dots in rows if chance.random() < 0.7)


def added(prime, *parts):
    """The sum of pairs (times, table), tables being dicts from pairs of indexes to surfaces."""
    total = {}
    for times, table in parts:
        for pair, surface in table.items():
            row = total.setdefault(pair, {})
            for dots, number in surface:
                row[dots] = (row.get(dots, 0) + times * number) % prime
    told = {pair: tuple((dots, row[dots]) for dots in sorted(row) if row[dots]) for pair, row in total.items()}
    return {pair: surface for pair, surface in told.items() if surface}


def behind(prime, rows, first, second):
    """The table of first, then second; rows are the entries that they go from, through and to."""
    parts = []
    for (i, j), surface in first.items():
        for (k, l), more in second.items():
            if j == k:
                one, two, three = rows[0][i][2], rows[1][j][2], rows[2][l][2]
                parts.append((1, {(i, l): put_behind(prime, one, two, three, surface, more)}))
    return added(prime, *parts)


def table_of(rows):
    """The table of a lead or of steps."""
    return {(i, j): surface for i, j, surface in rows}


def plain_table(many):
    """Each entry to itself alone."""
    return {(at, at): PLAIN for at in range(many)}


def steps_of(table):
    """The steps of a table."""
    return [(i, j, table[(i, j)]) for i, j in sorted(table)]


def with_pair(chain, entry):
    """The chain with two entries more that a plain step joins."""
    height, weight, mates = entry
    many = len(chain.entries)
    entries = chain.entries + ((height, weight, mates), (height + 1, weight, mates))
    return Chain(chain.prime, chain.places, entries, chain.steps + ((many, many + 1, PLAIN),))


def with_sum(chain, x, y, surface):
    """The chain with so many times entry y added to entry x: all steps told anew."""
    rows = (chain.entries,) * 3
    steps, change = table_of(chain.steps), {(x, y): surface}
    first = added(chain.prime, (1, steps), (-1, behind(chain.prime, rows, change, steps)))
    told = added(chain.prime, (1, first), (1, behind(chain.prime, rows, first, change)))
    return Chain(chain.prime, chain.places, chain.entries, steps_of(told))


def in_other_order(chain, order):
    """The chain with entry order[k] in the place k."""
    place = {old: new for new, old in enumerate(order)}
    steps = [(place[i], place[j], surface) for i, j, surface in chain.steps]
    return Chain(chain.prime, chain.places, [chain.entries[old] for old in order], steps)


def mixed(chain, seed):
    """The chain with pairs put in, entries added to others, and all in another sequence."""
    chance = random.Random(seed)
    for _ in range(3):
        if chain.entries:
            chain = with_pair(chain, chance.choice(chain.entries))
    for _ in range(60):
        x, y = chance.randrange(len(chain.entries)), chance.randrange(len(chain.entries))
        surface = some_level(chance, chain.prime, chain.entries[x], chain.entries[y])
        if x != y and chain.entries[x][0] == chain.entries[y][0] and surface:
            chain = with_sum(chain, x, y, surface)
    order = list(range(len(chain.entries)))
    chance.shuffle(order)
    return in_other_order(chain, order)


def plain_least_numbers(chain):
    """The least numbers by the words of the document, by dense rows."""
    def rank(entry):
        here = [at for at, other in enumerate(chain.entries) if other == entry]
        there = [at for at, other in enumerate(chain.entries) if other == (entry[0] + 1,) + entry[1:]]
        steps = {(i, j): dict(surface).get((), 0) for i, j, surface in chain.steps}
        return plain_rank(chain.prime, [[steps.get((i, j), 0) for j in there] for i in here])
    found = {}
    for entry in sorted(set(chain.entries)):
        many = chain.entries.count(entry) - rank(entry) - rank((entry[0] - 1,) + entry[1:])
        if many:
            found[entry] = many
    return found


def some_chains(most, primes=(2, 3, 7)):
    """Chains of patches with at most so many entries, and mixed ones."""
    found = []
    for seed, patch in enumerate(PATCHES):
        prime = primes[seed % len(primes)]
        if len(patch.crossings) <= 4:
            chain = chain_of(prime, patch)
            if len(chain.entries) <= most:
                found.extend([chain, mixed(chain, seed)])
    return found


def tied_matching(mates, p, q):
    """A matching with two places joined, places told by their old names, and whether a ring comes."""
    pairs = [tuple(sorted((at, mate))) for at, mate in enumerate(mates) if at < mate]
    if (min(p, q), max(p, q)) in pairs:
        return {pair for pair in pairs if p not in pair}, True
    ends = [mates[p], mates[q]]
    return {pair for pair in pairs if p not in pair and q not in pair} | {tuple(sorted(ends))}, False


def named_matching(pairs, places):
    """A matching of old names with new ones, as a tuple."""
    name = {place: at for at, place in enumerate(places)}
    mates = [0] * len(places)
    for one, other in pairs:
        mates[name[one]], mates[name[other]] = name[other], name[one]
    return tuple(mates)


def tied_surface(one, other, p, q, dots):
    """What joining two places makes of dots: a list of (mark ahead, mark behind, set of sheets with dots).

    Sheets are sets of places by their old names; marks are None where there is no ring.
    """
    (ahead, ring_ahead), (behind_pairs, ring_behind) = tied_matching(one, p, q), tied_matching(other, p, q)
    old = [frozenset(sheet) for sheet in plain_sheets(one, other)]
    places = [place for place in range(len(one)) if place not in (p, q)]
    new = [frozenset(places[at] for at in sheet)
           for sheet in plain_sheets(named_matching(ahead, places), named_matching(behind_pairs, places))]
    with_dots = [old[at] for at in dots]
    kept = {sheet for sheet in with_dots if p not in sheet and q not in sheet}
    with_p, with_q = [next(sheet for sheet in old if place in sheet) for place in (p, q)]
    if with_p != with_q:
        assert not ring_ahead and not ring_behind
        joined = (with_p | with_q) - {p, q}
        assert joined in new
        many = (with_p in with_dots) + (with_q in with_dots)
        return [] if many == 2 else [(None, None, kept | ({joined} if many else set()))]
    edges = ["ahead"] * ring_ahead + ["behind"] * ring_behind + [sheet for sheet in new if sheet <= with_p]
    assert len(edges) == 2
    told = []
    for bare in [None] if with_p in with_dots else edges:
        bear = [edge for edge in edges if edge != bare]
        mark_ahead = (1 if "ahead" in bear else -1) if ring_ahead else None
        mark_behind = (-1 if "behind" in bear else 1) if ring_behind else None
        told.append((mark_ahead, mark_behind, kept | {edge for edge in bear if not isinstance(edge, str)}))
    return told


def plain_tied(chain, p):
    """The entries and steps of a chain with a place and the following one joined, by the words of the document."""
    q = (p + 1) % chain.places
    places = [place for place in range(chain.places) if place not in (p, q)]
    entries, at = [], {}
    for i, (height, weight, mates) in enumerate(chain.entries):
        pairs, ring = tied_matching(mates, p, q)
        for mark in (-1, 1) if ring else (None,):
            at[(i, mark)] = len(entries)
            entries.append((height, weight + (mark or 0), named_matching(pairs, places)))
    total = {}
    for i, j, surface in chain.steps:
        for dots, number in surface:
            for ahead, behind_mark, sheets in tied_surface(chain.entries[i][2], chain.entries[j][2], p, q, dots):
                pair = (at[(i, ahead)], at[(j, behind_mark)])
                rows = [frozenset(places[k] for k in sheet)
                        for sheet in plain_sheets(entries[pair[0]][2], entries[pair[1]][2])]
                told = tuple(sorted(rows.index(sheet) for sheet in sheets))
                row = total.setdefault(pair, {})
                row[told] = row.get(told, 0) + number
    table = {pair: tuple((dots, row[dots] % chain.prime) for dots in sorted(row) if row[dots] % chain.prime)
             for pair, row in total.items()}
    return tuple(entries), tuple((i, j, table[(i, j)]) for i, j in sorted(table) if table[(i, j)])
