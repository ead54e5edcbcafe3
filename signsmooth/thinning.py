"""Tables thinned and thickened."""

from signsmooth.fracs import product_of, quotient_of, sum_of
from signsmooth.tables import look_table


def thinned(table):
    look_table(table)
    grid = [list(row) for row in table]
    for place in reversed(places_of(table)):
        change_by(grid, place[0], place[1], -1)
    return grid


def thickened(table):
    look_table(table)
    grid = [list(row) for row in table]
    for place in places_of(table):
        change_by(grid, place[0], place[1], 1)
    return grid


def places_of(table):
    places = []
    for j in range(len(table)):
        places.extend([(j, b) for b in range(len(table[0]))])
    return places


# Only numbers above and to the left of the place change, by such as are in its row or its column and stay as they are:
# so one way round undoes the other.
def change_by(grid, j, b, sign):
    if grid[j][b][0] == 0:
        return
    for i in range(j):
        share = quotient_of(grid[i][b], grid[j][b])
        factor = (sign * share[0], share[1])
        for a in range(b):
            grid[i][a] = sum_of(grid[i][a], product_of(factor, grid[j][a]))
