"""What the plain parts of a chain's steps leave of its entries."""

from ringcubes.chains import Chain
from ringcubes.errors import BadChain
from ringcubes.spans import spanned


def need_chain(thing):
    """Raise BadChain(None) unless thing is a Chain."""
    if not isinstance(thing, Chain):
        raise BadChain(None)


def plain_part(entries, step):
    """The number of a step at no dots if its two matchings are equal, else 0."""
    i, j, surface = step
    # No dots come first, if they come at all.
    dots, number = surface[0]
    if dots == () and entries[i][2] == entries[j][2]:
        return number
    return 0


def plain_rows(chain):
    """A dict from indexes of entries to the rows of the plain parts that begin there."""
    rows = {}
    for step in chain.steps:
        number = plain_part(chain.entries, step)
        if number != 0:
            rows.setdefault(step[0], {})[step[1]] = number
    return rows


def plain_ranks(chain):
    """A dict from entries to how many rows of plain parts of entries equal to this one are independent."""
    found = {}
    rows = plain_rows(chain)
    for i in rows:
        found.setdefault(chain.entries[i], []).append(rows[i])
    return {entry: spanned(chain.prime, found[entry])[1] for entry in found}


def least_numbers(chain):
    """The ascending dict from entries to how many of them plain parts leave."""
    need_chain(chain)
    ranks = plain_ranks(chain)
    told = {}
    for entry in sorted(chain.entries):
        told[entry] = told.get(entry, 0) + 1
    for height, weight, mates in list(told):
        # All plain parts join entries that are equal but for their heights: level dots see to that.
        led = ranks.get((height, weight, mates), 0) + ranks.get((height - 1, weight, mates), 0)
        told[(height, weight, mates)] -= led
    return {entry: told[entry] for entry in told if told[entry] > 0}


def is_least(chain):
    """Whether no step has a plain part."""
    need_chain(chain)
    return not plain_rows(chain)
