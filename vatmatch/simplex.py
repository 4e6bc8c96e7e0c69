"""The most that numbers within limits gain, by the simplex method in whole numbers."""

from vatmatch.fractions import NOUGHT, fraction


def first_table(gains, rows, limits):
    """The rows with their slacks and limits, and the goal below them; all numbers are over 1 at first."""
    count = len(rows)
    table = []
    for at, row in enumerate(rows):
        slacks = [1 if at == other else 0 for other in range(count)]
        table.append([*row, *slacks, limits[at]])
    table.append([-gain for gain in gains] + [0] * (count + 1))
    return table


def entering_column(goal):
    """The first column that still adds to the goal, or None."""
    for column, worth in enumerate(goal[:-1]):
        if worth < 0:
            return column
    return None


def gives_way_first(one, other, column):
    """Whether a row (BASIS, NUMBERS) comes to its limit ahead of another one as the column grows."""
    here = one[1][-1] * other[1][column]
    there = other[1][-1] * one[1][column]
    # Of rows that come to it together the one with the lesser basis: so no table ever comes again (Bland's rule).
    return here < there or (here == there and one[0] < other[0])


def leaving_row(table, basis, column):
    """The place of the row that gives way as the column grows."""
    best = None
    for at, row in enumerate(table[:-1]):
        if row[column] > 0:
            if best is None or gives_way_first((basis[at], row), (basis[best], table[best]), column):
                best = at
    return best


def turned(table, at, column, bottom):
    """The table, over this bottom, with the column in the basis of a row; the new bottom is where both meet."""
    pivot = table[at]
    meet = pivot[column]
    # Each number is a minor of the first table, so the division leaves no rest.
    return [
        row if row_at == at else [(one * meet - row[column] * other) // bottom for one, other in zip(row, pivot)]
        for row_at, row in enumerate(table)
    ]


def most_gain(gains, rows, limits):
    """Numbers from 0 on that gain the most, one for each of GAINS, and the price of each limit, as fractions.

    The numbers, times those of a row, are together no more than its limit. All that is handed in are whole numbers,
    limits from 0 on, and the gain must not grow without end. The prices are from 0 on; with them, no column gains more
    than its numbers cost, and all limits together cost just the most gain.
    """
    table = first_table(gains, rows, limits)
    basis = [len(gains) + at for at in range(len(rows))]
    bottom = 1
    column = entering_column(table[-1])
    while column is not None:
        at = leaving_row(table, basis, column)
        meet = table[at][column]
        table = turned(table, at, column, bottom)
        bottom = meet
        basis[at] = column
        column = entering_column(table[-1])
    numbers = [NOUGHT for gain in gains]
    for at, column in enumerate(basis):
        if column < len(gains):
            numbers[column] = fraction(table[at][-1], bottom)
    prices = [fraction(price, bottom) for price in table[-1][len(gains):-1]]
    return (numbers, prices)
