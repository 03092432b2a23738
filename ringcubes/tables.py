"""Tables of sums: dicts from states to dicts from states to numbers that are not 0."""

from ringcubes.errors import BadTable
from ringcubes.kinds import is_number, is_row


def is_sum_form(thing):
    """Whether thing is a dict, not empty, from tuples to numbers that are not 0."""
    if not isinstance(thing, dict) or not thing:
        return False
    return all([isinstance(key, tuple) and is_number(thing[key]) and thing[key] != 0 for key in thing])


def is_table_form(thing):
    """Whether thing has the form of a table."""
    if not isinstance(thing, dict):
        return False
    return all([isinstance(key, tuple) and is_sum_form(thing[key]) for key in thing])


def need_table(thing):
    """Raise BadTable unless thing has the form of a table."""
    if not is_table_form(thing):
        raise BadTable("no table")


def is_paper_form(thing):
    """Whether thing is a tuple of four values with the form of a table."""
    return is_row(thing, 4) and all([is_table_form(table) for table in thing])


def need_paper(thing):
    """Raise BadTable unless thing is a tuple of four values with the form of a table."""
    if not is_paper_form(thing):
        raise BadTable("no tuple of four tables")


def add_times(total, more, times):
    """Add so many times the sum more to the sum total."""
    for key in more:
        number = total.get(key, 0) + times * more[key]
        if number != 0:
            total[key] = number
        elif key in total:
            del total[key]


def led_on(told, table):
    """The sum to which a table leads a sum."""
    total = {}
    for state in told:
        if state in table:
            add_times(total, table[state], told[state])
    return total


def table_copy(table):
    """A new table with the same sums."""
    told = {}
    for state in table:
        row = table[state]
        told[state] = {key: row[key] for key in row}
    return told


def table_behind(first, second):
    """The table that leads on by second what first leads to."""
    told = {}
    for state in first:
        total = led_on(first[state], second)
        if total:
            told[state] = total
    return told


def table_sum(first, second, times):
    """First, and so many times second, together."""
    told = table_copy(first)
    for state in second:
        total = told.get(state, {})
        add_times(total, second[state], times)
        told[state] = total
    return {state: told[state] for state in told if told[state]}


def paper_turned(paper):
    """The paper the other way round."""
    there, back, ahead, behind = paper
    return table_copy(back), table_copy(there), table_copy(behind), table_copy(ahead)


def paper_behind(one, other):
    """The paper of two papers, other behind one."""
    there, back, ahead, behind = one
    there_on, back_on, ahead_on, behind_on = other
    around = table_behind(table_behind(there, ahead_on), back)
    around_back = table_behind(table_behind(back_on, behind), there_on)
    return (table_behind(there, there_on), table_behind(back_on, back),
            table_sum(ahead, around, 1), table_sum(behind_on, around_back, 1))
