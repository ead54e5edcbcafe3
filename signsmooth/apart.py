"""The first determinant below 0, and tables taken apart into ladders."""

from signsmooth.determinants import first_under
from signsmooth.fracs import NOUGHT, ONE, product_of, quotient_of, rest_of
from signsmooth.ladders import turned_step
from signsmooth.tables import columns_of, look_table


def first_below(table):
    look_table(table)
    return first_under(table, 0)


def taken_apart(table):
    look_table(table)
    below = first_under(table, 0)
    if below is not None:
        return ("below", below[0], below[1])
    size = max(len(table), len(table[0]))
    return ("ladder", (size, len(table), len(table[0]), steps_of(squared(table, size))))


# Rows and columns of noughts behind all others leave a good table good.
def squared(table, size):
    wide = [row + [NOUGHT] * (size - len(row)) for row in table]
    return wide + [[NOUGHT] * size for i in range(size - len(table))]


# From the top left on, each column and row of a good table is cleared but for the corner where they meet, each step by
# a neighbour; what is left stays good (Whitney). Steps that clear rows stand ahead of the corners, in order, and those
# that clear columns behind them, the last one first.
def steps_of(table):
    grid = list(table)
    many = len(table)
    ahead = []
    behind = []
    for k in range(many):
        ahead.extend(clear_column(grid, k))
        grid = columns_of(grid)
        behind.extend(clear_column(grid, k))
        grid = columns_of(grid)
        # A column of noughts alone may have given its place to one that is not.
        ahead.extend(clear_column(grid, k))
    corners = [("weigh", k, grid[k][k]) for k in range(many)]
    return ahead + corners + [turned_step(step) for step in reversed(behind)]


# A step for each corner, and at most two for each place beside them. (Where a column is cleared a second time there was
# nothing in it the first time.)
def most_steps_apart(tracks):
    return tracks + 2 * tracks * (tracks - 1)


def clear_column(grid, k):
    steps = []
    for i in range(len(grid) - 1, k, -1):
        if grid[i][k] == NOUGHT:
            continue
        if grid[i - 1][k] == NOUGHT:
            steps.extend(lift_row(grid, i))
        else:
            steps.append(take_off(grid, i, k))
    return steps


# In a good table a row with 0 above the first number of the next one is of noughts alone: both change places.
# What goes on along the track of noughts then counts for nothing, but what began on the other track must stop.
def lift_row(grid, i):
    grid.insert(i - 1, grid.pop(i))
    return [("weigh", i - 1, NOUGHT), ("up", i - 1, ONE)]


def take_off(grid, i, k):
    weight = quotient_of(grid[i][k], grid[i - 1][k])
    grid[i] = [rest_of(number, product_of(weight, above)) for number, above in zip(grid[i], grid[i - 1])]
    return ("up", i - 1, weight)
