"""What a number, an index, a prime and a spot are: judged by kinds, True is no number."""

from ringcubes.errors import BadNumber, BadPrime


def is_number(thing):
    """Whether thing is an int that is not a bool."""
    return isinstance(thing, int) and not isinstance(thing, bool)


def is_between(thing, least, most):
    """Whether thing is a number from least to most."""
    return is_number(thing) and least <= thing <= most


def is_index(thing, many):
    """Whether thing is an index of something with so many items."""
    return is_between(thing, 0, many - 1)


def are_indexes(thing, many):
    """Whether thing is an ascending tuple of different indexes of something with so many items."""
    if not isinstance(thing, tuple) or not all([is_index(index, many) for index in thing]):
        return False
    return all([less < more for less, more in zip(thing, thing[1:])])


def is_sign(thing):
    """Whether thing is the number 1 or the number -1."""
    return is_number(thing) and thing in (1, -1)


def is_list(thing):
    """Whether thing may stand where a list is spoken of."""
    return isinstance(thing, (list, tuple))


def is_row(thing, many):
    """Whether thing is a tuple of so many items."""
    return isinstance(thing, tuple) and len(thing) == many


def is_spot(thing):
    """Whether thing is a pair of numbers."""
    return is_row(thing, 2) and is_number(thing[0]) and is_number(thing[1])


def is_prime(thing):
    """Whether thing is a prime from 2 to 97."""
    if not is_between(thing, 2, 97):
        return False
    return all([thing % low != 0 for low in range(2, thing)])


def need_prime(prime):
    """Raise BadPrime unless prime is a prime from 2 to 97."""
    if not is_prime(prime):
        raise BadPrime("no prime from 2 to 97")


def need_number(thing, part):
    """Raise BadNumber(part) unless thing is a number."""
    if not is_number(thing):
        raise BadNumber(part)


def ascending(table):
    """A copy of a dict with its keys in ascending order."""
    return {key: table[key] for key in sorted(table)}
