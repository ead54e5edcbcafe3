"""Tables of fractions, choices of their rows and columns, their parts, and tables turned."""

from signsmooth.errors import NoChoice, NoTable
from signsmooth.fracs import is_fraction, is_whole

MOST = 7


def is_short_list(thing):
    return isinstance(thing, list) and 1 <= len(thing) <= MOST


def is_row(thing):
    return is_short_list(thing) and all([is_fraction(number) for number in thing])


def is_table(thing):
    if not is_short_list(thing) or not all([is_row(row) for row in thing]):
        return False
    return all([len(row) == len(thing[0]) for row in thing])


def is_choice(thing, many):
    if not is_whole(many) or not isinstance(thing, list) or len(thing) == 0:
        return False
    if not all([is_whole(number) for number in thing]):
        return False
    # In a rising list the first and the last number bound all others.
    return is_rising(thing) and thing[0] >= 0 and thing[-1] < many


def is_rising(numbers):
    return all([numbers[k - 1] < numbers[k] for k in range(1, len(numbers))])


def look_table(thing):
    if not is_table(thing):
        raise NoTable("no table: one to seven rows, all of as many fractions, one to seven")


def look_choices(rows, columns, many_rows, many_columns):
    if not is_choice(rows, many_rows):
        raise NoChoice("no choice of the rows")
    if not is_choice(columns, many_columns):
        raise NoChoice("no choice of the columns")


# As tuples, in the order of lists: each turn keeps the order that the turn ahead of it made.
def choices_of(many, size):
    found = [()]
    for turn in range(size):
        longer = []
        for choice in found:
            least = choice[-1] + 1 if turn > 0 else 0
            longer.extend([choice + (k,) for k in range(least, many)])
        found = longer
    return found


def picked(things, places):
    return [things[place] for place in places]


def part_of(table, rows, columns):
    look_table(table)
    look_choices(rows, columns, len(table), len(table[0]))
    return chosen(table, rows, columns)


def chosen(table, rows, columns):
    return [picked(table[i], columns) for i in rows]


def turned(table):
    look_table(table)
    return columns_of(table)


def columns_of(table):
    return [column_of(table, j) for j in range(len(table[0]))]


def column_of(table, j):
    return [row[j] for row in table]
