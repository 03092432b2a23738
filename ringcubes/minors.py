"""Tables that are alike across the diagonal, made diagonal by adding rows and columns to one another."""


def diagonal_place(rows):
    """The index of a number on the diagonal that is not 0; None if there is none."""
    for at, row in enumerate(rows):
        if row[at] != 0:
            return at
    return None


def place_beside(rows):
    """A pair of indexes of a number beside the diagonal that is not 0; None if there is none."""
    for at, row in enumerate(rows):
        for place, number in enumerate(row):
            if number != 0 and place != at:
                return at, place
    return None


def added(rows, one, other):
    """The table with row other added to row one, then column other to column one."""
    told = [list(row) for row in rows]
    told[one] = [number + more for number, more in zip(rows[one], rows[other])]
    for row in told:
        row[one] += row[other]
    return told


def cleared_by(rows, at, last):
    """The table without the row and the column of a pivot, cleared by it; last is the minor ahead of this one."""
    others = [index for index in range(len(rows)) if index != at]
    pivot = rows[at][at]
    # All numbers are minors of the table begun with, so that last divides without a rest.
    return [[(pivot * rows[i][k] - rows[i][at] * rows[at][k]) // last for k in others] for i in others]


def leading_minors(rows):
    """The minors 1, .. at the upper left, none of them 0, as many more as rows are independent."""
    minors = [1]
    while rows:
        at = diagonal_place(rows)
        if at is None:
            beside = place_beside(rows)
            if beside is None:
                return minors
            at = beside[0]
            rows = added(rows, at, beside[1])
        pivot = rows[at][at]
        rows = cleared_by(rows, at, minors[-1])
        minors.append(pivot)
    return minors
