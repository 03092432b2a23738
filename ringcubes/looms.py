"""Sums of surfaces put behind one another, over a prime.

A sum is a dict from dots to numbers from 1 on below the prime; a table a dict from pairs of indexes to sums.
"""

from ringcubes.seams import Seams


def by_starts(table):
    """A dict from indexes i to the lists of indexes j for which the table has a pair (i, j)."""
    found = {}
    for i, j in table:
        found.setdefault(i, []).append(j)
    return found


class Loom:
    """Puts sums of surfaces behind one another; seams are worked out once."""

    def __init__(self, prime):
        self.prime = prime
        self.seams = Seams()

    def add_number(self, total, dots, number):
        """Add a number to what the sum total has at dots."""
        left = (total.get(dots, 0) + number) % self.prime
        if left == 0:
            total.pop(dots, 0)
        else:
            total[dots] = left

    def add_behind(self, table, key, mates, sums, times):
        """Add so many times two sums, one behind the other, to what a table has at a key.

        mates are the three matchings that they go from, through and to; what comes to nothing is no longer there.
        """
        one, two, three = mates
        first, second = sums
        seam = self.seams.seam(one, two, three)
        total = table.setdefault(key, {})
        for dots in first:
            for more in second:
                number = first[dots] * second[more] * times
                for told, factor in seam.given(dots, more):
                    self.add_number(total, told, number * factor)
        if not total:
            del table[key]

    def behind(self, rows, first, second):
        """The table of first, then second; rows are the entries that they go from, through and to."""
        one, two, three = rows
        goals = by_starts(second)
        found = {}
        for i, j in first:
            for k in goals.get(j, []):
                mates = (one[i][2], two[j][2], three[k][2])
                self.add_behind(found, (i, k), mates, (first[(i, j)], second[(j, k)]), 1)
        return found

    def add_table(self, table, more):
        """Add another table to a table."""
        for pair in more:
            total = table.setdefault(pair, {})
            for dots in more[pair]:
                self.add_number(total, dots, more[pair][dots])
            if not total:
                del table[pair]
