"""Determinants, products, tables undone, and which tables are good or strict."""

from signsmooth.errors import NoFit, NoSquare, NoUndoing
from signsmooth.fracs import common_divisor, fraction
from signsmooth.tables import choices_of, chosen, columns_of, look_choices, look_table


def determinant(table):
    look_table(table)
    return square_determinant(table)


def minor(table, rows, columns):
    look_table(table)
    look_choices(rows, columns, len(table), len(table[0]))
    return square_determinant(chosen(table, rows, columns))


def square_determinant(table):
    look_square(table)
    scales = [scale_of(row) for row in table]
    return fraction(whole_determinant(whole_rows(table, scales)), product_of_all(scales))


def look_square(table):
    if len(table) != len(table[0]):
        raise NoSquare("not as many rows as columns")


# Rows are made whole by one scale each: bringing every sum to lowest terms would cost more than all else.
def scale_of(row):
    scale = 1
    for number in row:
        scale = scale // common_divisor(scale, number[1]) * number[1]
    return scale


def whole_row(row, scale):
    return [number[0] * (scale // number[1]) for number in row]


def whole_rows(table, scales):
    return [whole_row(row, scale) for row, scale in zip(table, scales)]


def product_of_all(numbers):
    found = 1
    for number in numbers:
        found = found * number
    return found


# Bareiss's way: each number that comes up is itself a determinant, so all divisions are without rest.
def whole_determinant(rows):
    grid = list(rows)
    many = len(rows)
    sign = 1
    last = 1
    for k in range(many):
        at = pivot_place(grid, k)
        if at is None:
            return 0
        if (at - k) % 2 == 1:
            sign = -sign
        grid.insert(k, grid.pop(at))
        for i in range(k + 1, many):
            grid[i] = cleared(grid[i], grid[k], k, last)
        last = grid[k][k]
    return sign * last


def pivot_place(grid, k):
    for i in range(k, len(grid)):
        if grid[i][k] != 0:
            return i
    return None


def cleared(row, pivot_row, k, last):
    pivot = pivot_row[k]
    factor = row[k]
    return [(number * pivot - other * factor) // last for number, other in zip(row, pivot_row)]


def product(one, other):
    look_table(one)
    look_table(other)
    if len(one[0]) != len(other):
        raise NoFit("the first has not as many columns as the second has rows")
    columns = columns_of(other)
    scales = [scale_of(column) for column in columns]
    whole_columns = whole_rows(columns, scales)
    return [product_row(row, whole_columns, scales) for row in one]


def product_row(row, whole_columns, scales):
    row_scale = scale_of(row)
    numbers = whole_row(row, row_scale)
    return [fraction(sum_of_products(numbers, column), row_scale * scale)
            for column, scale in zip(whole_columns, scales)]


def sum_of_products(numbers, others):
    return sum([number * other for number, other in zip(numbers, others)])


def undone(table):
    look_table(table)
    look_square(table)
    many = len(table)
    scales = [scale_of(row) for row in table]
    grid = [row + unit_row(i, many) for i, row in enumerate(whole_rows(table, scales))]
    last = 1
    for k in range(many):
        at = pivot_place(grid, k)
        if at is None:
            raise NoUndoing("the determinant is 0")
        grid.insert(k, grid.pop(at))
        grid = [row if i == k else cleared(row, grid[k], k, last) for i, row in enumerate(grid)]
        last = grid[k][k]
    return [undone_row(row[many:], scales, last) for row in grid]


def unit_row(place, many):
    return [1 if j == place else 0 for j in range(many)]


# What undoes rows that were multiplied has its columns divided by as much: multiplied back here.
def undone_row(numbers, scales, bottom):
    return [fraction(number * scale, bottom) for number, scale in zip(numbers, scales)]


def is_good(table):
    look_table(table)
    return first_under(table, 0) is None


# Whole determinants above 0 are from 1 on.
def is_strict(table):
    look_table(table)
    return first_under(table, 1) is None


# Scales are above 0, so determinants of whole rows have the signs of the table's own.
# The answer is the first, by fewest rows, then rows, then columns, of which the whole determinant is under the bound.
def first_under(table, bound):
    found = all_determinants(whole_rows(table, [scale_of(row) for row in table]))
    for choices in found:
        if found[choices] < bound:
            return (list(choices[0]), list(choices[1]))
    return None


# By rows and columns, fewest first; each along its last row from those of one row less, for which no rows count as 1.
def all_determinants(rows):
    found = {}
    known = {(): {(): 1}}
    for size in range(1, min(len(rows), len(rows[0])) + 1):
        fresh = {}
        column_choices = choices_of(len(rows[0]), size)
        for some in choices_of(len(rows), size):
            fresh[some] = one_row_more(known[some[:-1]], rows[some[-1]], column_choices)
            for columns in column_choices:
                found[(some, columns)] = fresh[some][columns]
        known = fresh
    return found


def one_row_more(known, row, column_choices):
    found = {}
    for columns in column_choices:
        found[columns] = along_last_row(known, row, columns)
    return found


def along_last_row(known, row, columns):
    total = 0
    for k in range(len(columns)):
        part = row[columns[k]] * known[columns[:k] + columns[k + 1:]]
        total = total - part if (len(columns) - k) % 2 == 0 else total + part
    return total
