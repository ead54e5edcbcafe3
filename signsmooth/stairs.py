"""Staircases of marks: which determinants stand in them, which lie beneath others, and all of them in order."""

from signsmooth.determinants import all_determinants, minor, whole_row
from signsmooth.errors import NoFit, NoNumber, NoStairs, TooMany
from signsmooth.fracs import is_between
from signsmooth.tables import MOST, column_of, is_short_list, look_table
from signsmooth.thinning import thickened

MOST_TOGETHER = 7
BEGINNING = (0, False)


def marks_of(table):
    look_table(table)
    return [marks_in(row) for row in table]


def marks_in(row):
    return [0 if number[0] == 0 else 1 for number in row]


def is_staircase(thing):
    if not is_short_list(thing) or not all([is_row_of_marks(row) for row in thing]):
        return False
    if not all([len(row) == len(thing[0]) for row in thing]):
        return False
    return all([is_well_filled(thing, i) for i in range(len(thing))])


def is_row_of_marks(thing):
    return is_short_list(thing) and all([is_between(mark, 0, 1) for mark in thing])


def is_well_filled(marks, i):
    return all([marks[i][j] == 1 or may_be_empty(marks, i, j) for j in range(len(marks[i]))])


def may_be_empty(marks, i, j):
    return 1 not in marks[i][:j] or 1 not in column_of(marks, j)[:i]


def look_stairs(thing):
    if not is_staircase(thing):
        raise NoStairs("no staircase: of each 0 all to its left or all above it are 0")


# What stands in one table of a staircase stands in all of them: so the one with 1 in all filled boxes is asked.
def plain_table(marks):
    return thickened([numbers_in(row) for row in marks])


def numbers_in(row):
    return [(mark, 1) for mark in row]


def stands(marks, rows, columns):
    look_stairs(marks)
    return minor(plain_table(marks), rows, columns)[0] != 0


def lies_beneath(one, other):
    look_stairs(one)
    look_stairs(other)
    if len(one) != len(other) or len(one[0]) != len(other[0]):
        raise NoFit("the staircases have not as many rows and columns")
    lower = plain_determinants(one)
    upper = plain_determinants(other)
    return all([upper[choices] != 0 for choices in lower if lower[choices] != 0])


# The plain table is of whole numbers, as nothing but 1 is divided by.
def plain_determinants(marks):
    return all_determinants([whole_row(row, 1) for row in plain_table(marks)])


def look_shape(rows, columns):
    if not is_between(rows, 1, MOST) or not is_between(columns, 1, MOST):
        raise NoNumber("rows and columns are from 1 to 7")


def count(rows, columns):
    look_shape(rows, columns)
    return many_from({}, (rows, columns), 0, BEGINNING)


# A staircase is gone over place by place, in the order of lists. What may come hangs on a state of two things alone:
# which columns have a 1, as the bits of a number, and whether the row that is gone over has one.
def next_state(shape, place, state, mark):
    j = place % shape[1]
    begun = j + 1 < shape[1] and (state[1] or mark == 1)
    return (state[0] | (mark << j), begun)


# How many staircases go on from a place; what is known is kept by place and state, as many beginnings share them.
def many_from(known, shape, place, state):
    if place == shape[0] * shape[1]:
        return 1
    if (place, state) not in known:
        filled = many_from(known, shape, place + 1, next_state(shape, place, state, 1))
        known[(place, state)] = many_with_empty(known, shape, place, state) + filled
    return known[(place, state)]


def many_with_empty(known, shape, place, state):
    column_bit = state[0] >> (place % shape[1]) & 1
    if state[1] and column_bit == 1:
        return 0
    return many_from(known, shape, place + 1, next_state(shape, place, state, 0))


def number_of(marks):
    look_stairs(marks)
    shape = (len(marks), len(marks[0]))
    known = {}
    state = BEGINNING
    number = 0
    for place in range(shape[0] * shape[1]):
        mark = marks[place // shape[1]][place % shape[1]]
        if mark == 1:
            number = number + many_with_empty(known, shape, place, state)
        state = next_state(shape, place, state, mark)
    return number


def listed(rows, columns):
    look_shape(rows, columns)
    if rows + columns > MOST_TOGETHER:
        raise TooMany("rows and columns together are more than 7")
    known = {}
    many = many_from(known, (rows, columns), 0, BEGINNING)
    return [staircase_at(known, (rows, columns), number) for number in range(many)]


def numbered(rows, columns, number):
    look_shape(rows, columns)
    known = {}
    if not is_between(number, 0, many_from(known, (rows, columns), 0, BEGINNING) - 1):
        raise NoNumber("no staircase has this number")
    return staircase_at(known, (rows, columns), number)


def staircase_at(known, shape, number):
    marks = []
    state = BEGINNING
    left = number
    for place in range(shape[0] * shape[1]):
        if place % shape[1] == 0:
            marks.append([])
        empty = many_with_empty(known, shape, place, state)
        mark = 0 if left < empty else 1
        left = left - empty * mark
        marks[-1].append(mark)
        state = next_state(shape, place, state, mark)
    return marks
