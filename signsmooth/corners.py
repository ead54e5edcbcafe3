"""The corners of a table, and the table that is made by its corners."""

from signsmooth.determinants import square_determinant
from signsmooth.errors import NoCorner
from signsmooth.fracs import NOUGHT, quotient_of, rest_of
from signsmooth.tables import look_table


def corners(table):
    look_table(table)
    return [corners_in_row(table, i) for i in range(len(table))]


def corners_in_row(table, i):
    return [square_determinant(corner_part(table, i, j)) for j in range(len(table[0]))]


def corner_part(table, i, j):
    size = min(i, j) + 1
    return [row[j + 1 - size:j + 1] for row in table[i + 1 - size:i + 1]]


def made_by(table):
    look_table(table)
    if any([NOUGHT in row for row in table]):
        raise NoCorner("a corner is 0")
    made = [[NOUGHT] * len(row) for row in table]
    for i in range(len(table)):
        for j in range(len(table[0])):
            made[i][j] = number_for_corner(table, made, i, j)
    return made


# With 0 at its place, the corner lacks this number times the corner that ends one row and one column ahead, which is
# not 0; all other numbers of the corner are made by then.
def number_for_corner(table, made, i, j):
    if i == 0 or j == 0:
        return table[i][j]
    lacking = rest_of(table[i][j], square_determinant(corner_part(made, i, j)))
    return quotient_of(lacking, table[i - 1][j - 1])
