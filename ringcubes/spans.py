"""Rows of numbers, over a prime or over whole numbers: how many are independent, and what twists.

A row is a dict from columns to numbers that are not 0. The prime 0 stands for whole numbers.
"""

from heapq import heappop, heappush
from math import gcd


def inverse(prime, number):
    """What number is to be multiplied with for 1 modulo the prime; 1 or -1 is its own over whole numbers."""
    if prime == 0:
        return number
    return [times for times in range(1, prime) if times * number % prime == 1][0]


def is_unit(prime, number):
    """Whether one can divide by number."""
    return prime > 0 or number in (1, -1)


def times_row(prime, row, times):
    """The row, each number multiplied."""
    if prime == 0:
        return {key: row[key] * times for key in row}
    return {key: row[key] * times % prime for key in row}


def residues(prime, row):
    """The row modulo the prime, without numbers that come to 0; a copy over whole numbers."""
    if prime == 0:
        return {key: row[key] for key in row if row[key] != 0}
    return {key: row[key] % prime for key in row if row[key] % prime != 0}


class Span:
    """Rows that have been cleared of one another: each has 1 in a column in which no later one has a number."""

    def __init__(self, prime):
        self.prime = prime
        self.lead_rows = []
        self.lead_columns = []
        self.lead_of = {}

    def cleared(self, row):
        """The row, less such multiples of the rows kept that it has no number in their columns."""
        row = residues(self.prime, row)
        queue = []
        for key in row:
            if key in self.lead_of:
                heappush(queue, self.lead_of[key])
        while queue:
            at = heappop(queue)
            times = row.get(self.lead_columns[at], 0)
            if times != 0:
                self.take_off(row, self.lead_rows[at], times, queue)
        return row

    def take_off(self, row, lead, times, queue):
        """Take so many times lead off row, and put the rows that are to be taken off next into the queue."""
        for key, worth in lead.items():
            number = row.get(key, 0)
            left = number - times * worth
            if self.prime > 0:
                left = left % self.prime
            if left == 0:
                del row[key]
                continue
            row[key] = left
            if number == 0 and key in self.lead_of:
                heappush(queue, self.lead_of[key])

    def keep(self, row):
        """Keep a cleared row if one can divide by one of its numbers; tells whether it is kept."""
        units = [key for key in row if is_unit(self.prime, row[key])]
        if not units:
            return False
        column = max(units)
        self.lead_of[column] = len(self.lead_rows)
        self.lead_columns.append(column)
        self.lead_rows.append(times_row(self.prime, row, inverse(self.prime, row[column])))
        return True


def rest_cleared(span, rest):
    """What is left of rows in which one can divide by no number, when all that can be kept is kept."""
    fresh = True
    while fresh:
        fresh = False
        left = []
        for row in rest:
            row = span.cleared(row)
            if row and span.keep(row):
                fresh = True
            elif row:
                left.append(row)
        rest = left
    return rest


def spanned(prime, rows):
    """A triple: the list of columns in which rows were kept, the number of independent rows, and the twists.

    Each row kept has 1 in its column; so the states of these columns are told by the rows and the others.
    """
    span = Span(prime)
    rest = []
    for row in rows:
        row = span.cleared(row)
        if row and not span.keep(row):
            rest.append(row)
    numbers = diagonal(rest_cleared(span, rest))
    return span.lead_columns, len(span.lead_rows) + len(numbers), divisor_chain(numbers)


def least_entry(rows):
    """The index of the row and the column of the number nearest to 0."""
    return min([(abs(row[key]), at, key) for at, row in enumerate(rows) for key in row])[1:]


def row_less(row, other, times):
    """The row less times the other one."""
    told = {key: row[key] for key in row}
    for key in other:
        told[key] = told.get(key, 0) - times * other[key]
    return residues(0, told)


def column_less(rows, key, other, times):
    """All rows with times the column other taken off the column key."""
    told = []
    for row in rows:
        row = {name: row[name] for name in row}
        row[key] = row.get(key, 0) - times * row.get(other, 0)
        told.append(residues(0, row))
    return told


def diagonal(rows):
    """The numbers, without signs, that are left of whole rows made diagonal."""
    found = []
    while rows:
        at, key = least_entry(rows)
        lead = rows[at]
        number = lead[key]
        rows = [row if index == at else row_less(row, lead, row.get(key, 0) // number)
                for index, row in enumerate(rows)]
        if all([key not in row for index, row in enumerate(rows) if index != at]):
            for name in [name for name in lead if name != key]:
                rows = column_less(rows, name, key, lead[name] // number)
            if len(rows[at]) == 1:
                found.append(abs(number))
                rows = [row for index, row in enumerate(rows) if index != at]
        rows = [row for row in rows if row]
    return found


def divisor_chain(numbers):
    """The ascending tuple of numbers from 2 on, each of which divides the next one, that leaves the same."""
    chain = []
    for number in numbers:
        longer = []
        for member in chain:
            common = gcd(member, number)
            longer.append(common)
            number = member // common * number
        chain = longer + [number]
    return tuple([number for number in chain if number > 1])
