"""Least papers: how a chain is replaced by one without plain parts."""

from ringcubes.chains import Chain
from ringcubes.kinds import is_row
from ringcubes.leads import is_lead, lead_of, lead_table, plain_table_of
from ringcubes.leasts import is_least, need_chain
from ringcubes.looms import Loom
from ringcubes.papertrails import Trail


def is_small_of(chain, thing):
    """Whether thing is a Chain without plain parts, of the prime and places of another one."""
    if not isinstance(thing, Chain) or thing.prime != chain.prime or thing.places != chain.places:
        return False
    return is_least(thing)


def has_least_form(chain, seams, thing):
    """Whether thing is a tuple of a small chain and three leads between it and the chain, as a least paper has."""
    if not is_row(thing, 4) or not is_small_of(chain, thing[0]):
        return False
    rows, few = chain.entries, thing[0].entries
    there, back, lift = [(chain.prime, seams, thing[at]) for at in (1, 2, 3)]
    return is_lead(there, rows, few, 0) and is_lead(back, few, rows, 0) and is_lead(lift, rows, rows, -1)


def runs_along(loom, one, other, lead):
    """Whether the steps of one, then a lead to other, are the lead, then the steps of other."""
    first = loom.behind((one.entries, one.entries, other.entries), lead_table(one.steps), lead)
    return first == loom.behind((one.entries, other.entries, other.entries), lead, lead_table(other.steps))


def is_lifted(loom, chain, around, lift):
    """Whether around, a table from the chain to itself, is plain less (steps, then lift) less (lift, then steps)."""
    rows = (chain.entries, chain.entries, chain.entries)
    steps = lead_table(chain.steps)
    total = loom.behind(rows, steps, lift)
    loom.add_table(total, loom.behind(rows, lift, steps))
    loom.add_table(total, around)
    return total == plain_table_of(len(chain.entries))


def is_least_paper(chain, paper):
    """Whether any value is a least paper of the chain."""
    need_chain(chain)
    loom = Loom(chain.prime)
    if not has_least_form(chain, loom.seams, paper):
        return False
    small = paper[0]
    there, back, lift = [lead_table(lead) for lead in paper[1:]]
    if not runs_along(loom, chain, small, there) or not runs_along(loom, small, chain, back):
        return False
    rows, few = chain.entries, small.entries
    if loom.behind((few, rows, few), back, there) != plain_table_of(len(few)):
        return False
    return is_lifted(loom, chain, loom.behind((rows, few, rows), there, back), lift)


def least_paper(chain):
    """A least paper of the chain."""
    need_chain(chain)
    trail = Trail(chain)
    trail.shrink()
    draft = trail.draft()
    small = Chain(draft.prime, draft.places, draft.entries, draft.steps)
    there, back, lift = trail.tables()
    return small, lead_of(chain.prime, there), lead_of(chain.prime, back), lead_of(chain.prime, lift)
