"""The simplex method, for the one kind of program that covers and packings need."""

from joinhall.ratios import fraction


def first_table(groups, size):
    """Return the table of the program: a row for each group (the numbers in it, its slack,
    its limit 1), and last the row of the goal, which is the sum of all numbers."""
    table = []
    for at, group in enumerate(groups):
        entries = [int(number in group) for number in range(size)]
        slacks = [int(other == at) for other in range(len(groups))]
        table.append(entries + slacks + [1])
    table.append([-1] * size + [0] * (len(groups) + 1))
    return table


def column_to_enter(goal):
    """Return the first column that makes the goal greater, None if there is none."""
    for column, entry in enumerate(goal[:-1]):
        if entry < 0:
            return column
    return None


def row_to_leave(table, basis, column):
    """Return the row that limits a column first, of several that with the first column."""
    best = None
    for at in range(len(basis)):
        if table[at][column] > 0 and (best is None or limits_before(table, basis, column, at, best)):
            best = at
    return best


def limits_before(table, basis, column, at, other):
    """Tell whether a row limits a column before another one does."""
    left = table[at][-1] * table[other][column]
    right = table[other][-1] * table[at][column]
    return (left, basis[at]) < (right, basis[other])


def turned_row(row, by, column, scale):
    """Return a row without a column that the row `by` stands for, under the next scale."""
    # This divides without a rest: all entries are minors of the first table.
    return [(n * by[column] - row[column] * m) // scale for n, m in zip(row, by)]


def greatest_sum(groups, size):
    """Return numbers from 0 on, so many, with the greatest sum such that those in each
    group add up to at most 1, and the price of each group, as lists of fractions. Each
    number is in some group, so that there is a greatest sum."""
    table = first_table(groups, size)
    basis = [size + at for at in range(len(groups))]
    # All entries are integers over this common denominator.
    scale = 1
    column = column_to_enter(table[-1])
    # To take always the first column that will do keeps the method from going in circles.
    while column is not None:
        leaving = row_to_leave(table, basis, column)
        by = table[leaving]
        table = [row if at == leaving else turned_row(row, by, column, scale) for at, row in enumerate(table)]
        scale = by[column]
        basis[leaving] = column
        column = column_to_enter(table[-1])
    numbers = [(0, 1)] * size
    for at, place in enumerate(basis):
        if place < size:
            numbers[place] = fraction(table[at][-1], scale)
    prices = [fraction(entry, scale) for entry in table[-1][size:-1]]
    return (numbers, prices)
