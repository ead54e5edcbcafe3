"""Changes of sign in rows, rows behind tables, and rows that tell against a table."""

from signsmooth.apart import first_below
from signsmooth.determinants import product, scale_of, whole_determinant, whole_rows
from signsmooth.errors import NoRow
from signsmooth.tables import chosen, column_of, is_row, look_table


def look_row(thing):
    if not is_row(thing):
        raise NoRow("no row: a list of one to seven fractions")


def sign_of(number):
    if number[0] == 0:
        return 0
    return 1 if number[0] > 0 else -1


def signs_of(row):
    return [sign_of(number) for number in row]


def least_changes(row):
    look_row(row)
    signs = [sign for sign in signs_of(row) if sign != 0]
    return len([k for k in range(1, len(signs)) if signs[k] != signs[k - 1]])


# A nought that is taken against the sign ahead of it makes a change, and loses at most the one behind it. Noughts that
# stand ahead of all else can be taken so that each of them makes a change with what is behind it.
def most_changes(row):
    look_row(row)
    changes = 0
    last = 0
    for k, sign in enumerate(signs_of(row)):
        taken = sign if sign != 0 else -last
        if k > 0 and (last == 0 or taken != last):
            changes = changes + 1
        last = taken
    return changes


def first_sign(row):
    look_row(row)
    for sign in signs_of(row):
        if sign != 0:
            return sign
    return 0


def behind(table, row):
    look_table(table)
    look_row(row)
    return column_of(product(table, [[number] for number in row]), 0)


def tells_against(table, row):
    after = behind(table, row)
    more = least_changes(after) - least_changes(row)
    if more != 0:
        return more > 0
    return first_sign(after) not in (0, first_sign(row))


def against(table):
    below = first_below(table)
    if below is None:
        return None
    tops = tops_against(table, below[0], below[1])
    most_bits = max([abs(top).bit_length() for top in tops])
    # Only signs count, so the first bits alone mostly tell as much: they are tried, and are told where they do.
    bits = 4
    while bits < most_bits:
        row = [(top >> (most_bits - bits), 1) for top in tops]
        if tells_against(table, row):
            return row
        bits = 2 * bits
    return [(top, 1) for top in tops]


# The first part below 0 has as few rows as there are, so all lesser determinants are from 0 on. By these and the one
# below 0 a row that comes out behind the part with the signs 1, -1, 1 and so on has as many changes itself, and begins
# below 0. Behind the whole table there are more changes, or as many and a first sign above 0.
# The row is told by Cramer's rule, times the determinant with its sign changed: so its numbers are whole.
def tops_against(table, rows, columns):
    part = chosen(table, rows, columns)
    whole_part = whole_rows(part, [scale_of(row) for row in part])
    tops = [0] * len(table[0])
    for k, place in enumerate(columns):
        tops[place] = -whole_determinant(with_signs_at(whole_part, k))
    return tops


def with_signs_at(rows, k):
    return [row[:k] + [1 if i % 2 == 0 else -1] + row[k + 1:] for i, row in enumerate(rows)]
