"""Changes of sign in rows, rows behind tables, and rows that tell against a table."""

from signsmooth.apart import first_below
from signsmooth.determinants import product, scale_of, undone, whole_row
from signsmooth.errors import NoRow
from signsmooth.fracs import NOUGHT, ONE, shared_divisor
from signsmooth.tables import chosen, column_of, is_row, look_table


def look_row(thing):
    if not is_row(thing):
        raise NoRow("no row: a list of one to seven fractions")


def sign_of(number):
    if number[0] == 0:
        return 0
    return 1 if number[0] > 0 else -1


def signs_of(row):
    return [sign_of(number) for number in row]


def least_changes(row):
    look_row(row)
    signs = [sign for sign in signs_of(row) if sign != 0]
    return len([k for k in range(1, len(signs)) if signs[k] != signs[k - 1]])


# A nought that is taken against the sign ahead of it makes a change, and loses at most the one behind it. Noughts that
# stand ahead of all else can be taken so that each of them makes a change with what is behind it.
def most_changes(row):
    look_row(row)
    changes = 0
    last = 0
    for k, sign in enumerate(signs_of(row)):
        taken = sign if sign != 0 else -last
        if k > 0 and (last == 0 or taken != last):
            changes = changes + 1
        last = taken
    return changes


def first_sign(row):
    look_row(row)
    for sign in signs_of(row):
        if sign != 0:
            return sign
    return 0


def behind(table, row):
    look_table(table)
    look_row(row)
    return column_of(product(table, [[number] for number in row]), 0)


def tells_against(table, row):
    after = behind(table, row)
    more = least_changes(after) - least_changes(row)
    if more != 0:
        return more > 0
    return first_sign(after) not in (0, first_sign(row))


# The first part below 0 has as few rows as there are, so all lesser determinants are from 0 on. By these and the one
# below 0 the row that comes out behind the part as 1, -1, 1 and so on has as many changes itself, and begins below 0.
# Behind the whole table there are more changes, or as many and a first sign above 0.
def against(table):
    below = first_below(table)
    if below is None:
        return None
    part = chosen(table, below[0], below[1])
    numbers = behind(undone(part), [ONE if k % 2 == 0 else (-1, 1) for k in range(len(part))])
    row = [NOUGHT] * len(table[0])
    for place, top in zip(below[1], shortened(numbers)):
        row[place] = (top, 1)
    return row


# A row multiplied by a number above 0 has the same signs, also behind a table: so it is told by short whole numbers.
def shortened(numbers):
    tops = whole_row(numbers, scale_of(numbers))
    divisor = shared_divisor(0, tops)
    return [top // divisor for top in tops]
